"""The judge of records. Its model is plain lists, without the parts of which a runtime is made."""

from tickrings.numbering import (DELIVER, REFILL, all_jobs, all_numbers, budget_amounts, device_of_job,
                                 device_of_line, is_receive, job_budget, kind_of_job, receive_number,
                                 transmit_number)
from tickrings.parts import is_byte, is_bytes_list, is_index, is_same
from tickrings.plain import PlainDevice


class Model:
    """The plain model of a runtime; it stands in the present tick, before or among the commands."""

    def __init__(self, config):
        many = len(config.devices)
        self._config = config
        self._tick = 0
        self._turn = 0
        self._devices = [PlainDevice(settings, config.size) for settings in config.devices]
        # The buffer that has been free for the longest time stands first.
        self._free = list(range(config.buffers))
        self._lines = all_numbers(many)
        self._jobs = all_jobs(many)
        self._job_budget = job_budget(many)
        self._pending = [False] * len(self._lines)
        self._masked = [False] * len(self._lines)
        self._left = budget_amounts(config)

    def accept(self, event):
        """Apply the event of a command and return True; return False, without a change, if it cannot stand."""
        if not isinstance(event, tuple):
            return False
        match event:
            case ("arrived", tick, d, byte):
                return self._is_now(tick, d) and self._arrive(d, byte)
            case ("lost", tick, d, byte):
                return self._is_now(tick, d) and self._lose(d, byte)
            case ("mask", tick, line):
                return is_same(tick, self._tick) and self._set_mask(line, True)
            case ("unmask", tick, line):
                return is_same(tick, self._tick) and self._set_mask(line, False)
            case ("read", tick, d, items):
                return self._is_now(tick, d) and self._read(d, items)
            case ("written", tick, d, data):
                return self._is_now(tick, d) and self._write(d, data)
        return False

    def rest_of_tick(self):
        """Apply what happens behind the commands of the present tick and return the list of its events."""
        events = self._sent() + self._period() + self._woken() + [self._stepped()]
        self._tick += 1
        return events

    def _is_now(self, tick, d):
        return is_same(tick, self._tick) and is_index(d, len(self._devices))

    def _arrive(self, d, byte):
        if not is_byte(byte) or self._devices[d].queue_is_full():
            return False
        self._devices[d].arrive(byte, self._tick)
        return True

    def _lose(self, d, byte):
        if not is_byte(byte) or not self._devices[d].queue_is_full():
            return False
        self._devices[d].lose(self._tick)
        return True

    def _set_mask(self, line, masked):
        if not is_index(line, len(self._lines)):
            return False
        self._masked[line] = masked
        return True

    def _read(self, d, items):
        device = self._devices[d]
        if not isinstance(items, list) or not is_same(items, device.reading[:len(items)]):
            return False
        if not device.read_gives(len(items)):
            return False
        device.read(len(items))
        return True

    def _write(self, d, data):
        if not is_bytes_list(data) or not self._devices[d].write_fits(data):
            return False
        self._devices[d].write(data)
        return True

    def _sent(self):
        events = []
        for d, device in enumerate(self._devices):
            if device.outgoing and self._tick % device.settings.pace == 0:
                events.append(("sent", self._tick, d, device.outgoing.pop(0)))
        return events

    def _period(self):
        if self._tick % self._config.period != 0:
            return []
        self._left = budget_amounts(self._config)
        return [("period", self._tick)]

    def _woken(self):
        events = []
        for d, device in enumerate(self._devices):
            if device.close_idle(self._tick):
                events.append(("closed", self._tick, d))
            if device.wakes(self._tick):
                events.extend(self._raised(receive_number(d)))
            if device.staged:
                events.extend(self._raised(transmit_number(d)))
        return events

    def _raised(self, line):
        if self._pending[line]:
            return []
        self._pending[line] = True
        return [("pending", self._tick, line)]

    def _stepped(self):
        for line in self._lines:
            if self._pending[line] and not self._masked[line] and self._left[line] > 0 and self._line_can(line):
                return self._run_line(line)
        if self._left[self._job_budget] > 0:
            for job in self._jobs[self._turn:] + self._jobs[:self._turn]:
                if self._job_can(job):
                    return self._run_job(job)
        return ("idle", self._tick)

    def _line_can(self, line):
        device = self._devices[device_of_line(line)]
        if is_receive(line):
            return device.can_receive()
        return device.can_transmit()

    def _run_line(self, line):
        self._left[line] -= 1
        device = self._devices[device_of_line(line)]
        if is_receive(line):
            item = device.receive_step(self._tick)
            self._pending[line] = len(device.queue) > 0
            return ("run", self._tick, line, item)
        byte, buffer = device.transmit_step()
        if buffer is not None:
            self._free.append(buffer)
        self._pending[line] = len(device.staged) > 0
        return ("run", self._tick, line, byte)

    def _job_can(self, job):
        device = self._devices[device_of_job(job)]
        kind = kind_of_job(job)
        if kind == DELIVER:
            return device.can_deliver()
        if kind == REFILL:
            return self._may_take(device.receive_buffers(), device.settings.slots)
        return len(device.writing) > 0 and self._may_take(device.transmit_buffers(), device.settings.slots)

    def _may_take(self, held, slots):
        """Return True if a ring that holds so many buffers may take another one."""
        if held == slots or not self._free:
            return False
        return held == 0 or len(self._free) - 1 >= self._rings_without()

    def _rings_without(self):
        many = 0
        for device in self._devices:
            for held in (device.receive_buffers(), device.transmit_buffers()):
                if held == 0:
                    many += 1
        return many

    def _run_job(self, job):
        self._left[self._job_budget] -= 1
        self._turn = (job + 1) % len(self._jobs)
        d = device_of_job(job)
        device = self._devices[d]
        kind = kind_of_job(job)
        if kind == DELIVER:
            buffer, data, lost = device.deliver()
            self._free.append(buffer)
            return ("delivered", self._tick, d, len(data), lost)
        buffer = self._free.pop(0)
        if kind == REFILL:
            device.arm(buffer)
            return ("armed", self._tick, d, buffer)
        return ("staged", self._tick, d, device.stage(buffer))


def first_fault(config, events):
    """Return the index of the first event that cannot stand at its place.

    Return the number of the events if they are right but not complete, None if they are both.
    """
    model = Model(config)
    at = 0
    while at < len(events):
        while at < len(events) and model.accept(events[at]):
            at += 1
        for wanted in model.rest_of_tick():
            # Behind the last event, the wanted one is missing.
            if at == len(events) or not is_same(events[at], wanted):
                return at
            at += 1
    return None
