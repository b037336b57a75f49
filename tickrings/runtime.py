"""The runtime, which performs ticks and keeps the record of what happened in them."""

from tickrings.budgets import Budgets
from tickrings.device import Device
from tickrings.jobs import can_work, perform
from tickrings.lines import Lines, wakes
from tickrings.numbering import (all_jobs, all_numbers, budget_amounts, device_of_line, is_receive, job_budget,
                                 receive_number, transmit_number)
from tickrings.pool import Pool
from tickrings.work import choice


class Runtime:
    """A configuration's devices and everything that moves their bytes."""

    def __init__(self, config):
        many = len(config.devices)
        self.config = config
        self.tick = 0
        self.turn = 0
        self.pool = Pool(config.buffers)
        self.devices = [Device(d, settings, config.size, self.pool) for d, settings in enumerate(config.devices)]
        # The lines and the rings have the same numbers.
        self._numbers = all_numbers(many)
        self.lines = Lines(len(self._numbers))
        self.budgets = Budgets(budget_amounts(config))
        self.events = []
        self._jobs = all_jobs(many)
        self._job_budget = job_budget(many)

    def step(self, commands):
        """Perform one tick with a list of commands."""
        for command in commands:
            self._obey(command)
        for device in self.devices:
            self._send(device)
        self._begin_period()
        for device in self.devices:
            self._close_idle(device)
            self._raise_lines(device)
        self._make_step()
        self.tick += 1

    def _obey(self, command):
        match command:
            case ("arrive", d, byte):
                self._arrive(d, byte)
            case ("mask", line):
                self.lines.mask(line)
                self.events.append(("mask", self.tick, line))
            case ("unmask", line):
                self.lines.unmask(line)
                self.events.append(("unmask", self.tick, line))
            case ("read", d, n):
                self.events.append(("read", self.tick, d, self.devices[d].reading.read(n)))
            case ("write", d, data):
                accepted = self.devices[d].writing.write(data)
                self.events.append(("written", self.tick, d, data[:accepted]))

    def _arrive(self, d, byte):
        if self.devices[d].incoming.arrive(byte, self.tick):
            self.events.append(("arrived", self.tick, d, byte))
        else:
            self.events.append(("lost", self.tick, d, byte))

    def _send(self, device):
        if self.tick % device.settings.pace != 0:
            return
        byte = device.outgoing.take()
        if byte is not None:
            self.events.append(("sent", self.tick, device.index, byte))

    def _begin_period(self):
        if self.tick % self.config.period == 0:
            self.budgets.refill()
            self.events.append(("period", self.tick))

    def _close_idle(self, device):
        if device.receiver.close_idle(self.tick):
            self.events.append(("closed", self.tick, device.index))

    def _raise_lines(self, device):
        queue = device.incoming
        settings = device.settings
        if wakes(queue.bytes_held(), queue.oldest_tick(), self.tick, settings.count_limit, settings.wait):
            self._raise_line(receive_number(device.index))
        if device.transmit_ring.oldest() is not None:
            self._raise_line(transmit_number(device.index))

    def _raise_line(self, line):
        # The record tells only of lines that were not pending before.
        if not self.lines.is_pending(line):
            self.lines.raise_line(line)
            self.events.append(("pending", self.tick, line))

    def _make_step(self):
        kind, number = self._chosen()
        if kind == "line":
            self._run_line(number)
        elif kind == "job":
            self._run_job(number)
        else:
            self.events.append(("idle", self.tick))

    def _chosen(self):
        pending = [self.lines.is_pending(line) for line in self._numbers]
        masked = [self.lines.is_masked(line) for line in self._numbers]
        left = [self.budgets.left(line) for line in self._numbers]
        able = [self._able(line) for line in self._numbers]
        able_jobs = [can_work(self.devices, self.pool, self._numbers, job) for job in self._jobs]
        return choice(pending, masked, left, able, self.budgets.left(self._job_budget), self.turn, able_jobs)

    def _able(self, line):
        device = self.devices[device_of_line(line)]
        if is_receive(line):
            return device.receiver.can_step()
        return device.sender.can_step()

    def _run_line(self, line):
        self.budgets.charge(line)
        device = self.devices[device_of_line(line)]
        if is_receive(line):
            item = device.receiver.step(self.tick)
            done = device.incoming.first() is None
        else:
            item = device.sender.step()
            done = device.transmit_ring.oldest() is None
        if done:
            self.lines.clear_line(line)
        self.events.append(("run", self.tick, line, item))

    def _run_job(self, job):
        self.budgets.charge(self._job_budget)
        told = perform(self.devices, self.pool, self.config.size, job)
        self.events.append((told[0], self.tick) + told[1:])
        self.turn = (job + 1) % len(self._jobs)


def run(config, schedule):
    """Return the Runtime after one tick for each list of commands in a schedule."""
    runtime = Runtime(config)
    for commands in schedule:
        runtime.step(commands)
    return runtime
