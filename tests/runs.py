"""Runs of many kinds for the tests, and what point 0.10 says at the end of every tick of a run."""

import random

from tickrings.config import Config, Settings
from tickrings.runtime import Runtime

STEPS = ("run", "delivered", "armed", "staged", "idle")
JOBS = ("delivered", "armed", "staged")


def pick(source, low, high):
    """A number of a range: often one of its ends, else a small one or any."""
    kind = source.randrange(4)
    if kind == 0:
        return low
    if kind == 1:
        return high
    if kind == 2:
        return source.randint(low, min(high, low + 3))
    return source.randint(low, high)


def some_settings(source, budgets):
    queue = pick(source, 1, 16)
    return Settings(
        queue=queue, sending=pick(source, 1, 16), slots=pick(source, 1, 32), pace=pick(source, 1, 16),
        count=pick(source, 1, queue), wait=pick(source, 1, 32), idle=pick(source, 1, 32), room=pick(source, 16, 64),
        receive=pick(source, 1, budgets), transmit=pick(source, 1, budgets))


def some_config(seed):
    """A configuration, small or large in each of its settings."""
    source = random.Random(seed)
    many = source.randint(1, 4)
    period = source.randint(2 * many + 1, 64)
    # The budgets of the handlers share what the job budget leaves.
    jobs = source.randint(1, period - 2 * many)
    devices = [some_settings(source, (period - jobs) // (2 * many)) for _ in range(many)]
    return Config(devices=devices, buffers=pick(source, 2 * many, min(256, 24 * many)), size=pick(source, 1, 16),
                  period=period, jobs=jobs)


def small_config(seed):
    """A configuration with small settings, so that everything happens within few ticks."""
    source = random.Random(seed)
    many = source.randint(1, 4)
    devices = []
    for _ in range(many):
        queue = source.randint(1, 4)
        devices.append(Settings(
            queue=queue, sending=source.randint(1, 3), slots=source.randint(1, 3), pace=source.randint(1, 3),
            count=source.randint(1, queue), wait=source.randint(1, 5), idle=source.randint(1, 5), room=16,
            receive=source.randint(1, 3), transmit=source.randint(1, 3)))
    jobs = source.randint(1, 12)
    used = sum(each.receive + each.transmit for each in devices) + jobs
    return Config(devices=devices, buffers=source.randint(2 * many, 3 * many + 2), size=source.randint(1, 4),
                  period=source.randint(used, min(64, used + 6)), jobs=jobs)


def some_commands(source, many, habit):
    """The commands of a tick; the habit says how often each kind of command comes."""
    commands = []
    for name, often in habit.items():
        for _ in range(source.choice(often)):
            d = source.randrange(many)
            if name == "arrive":
                command = ("arrive", d, source.randrange(256))
            elif name == "read":
                command = ("read", d, source.choice([0, 1, 2, 5, 64]))
            elif name == "write":
                command = ("write", d, [source.randrange(256) for _ in range(source.choice([0, 1, 2, 7, 64]))])
            else:
                command = (name, source.randrange(2 * many))
            commands.append(command)
    source.shuffle(commands)
    return commands


HABITS = (
    {"arrive": (0, 0, 1), "read": (0, 1), "write": (0, 0, 0, 1)},
    {"arrive": (0, 1, 2, 3, 12), "read": (0, 0, 0, 1), "write": (0, 1, 2)},
    {"arrive": (0, 2, 5), "read": (0,), "write": (1,)},
    {"arrive": (0, 0, 0, 0, 9), "read": (0, 0, 1), "write": (0, 0, 0, 0, 0, 2), "mask": (0, 0, 0, 0, 0, 1),
     "unmask": (0, 0, 0, 1)},
    {"arrive": (0, 1), "read": (1, 2), "write": (0, 0, 1), "mask": (0, 0, 0, 1), "unmask": (0, 0, 1)},
    {"arrive": (0, 0, 0, 0, 0, 0, 0, 1), "write": (0, 0, 0, 0, 0, 0, 0, 1), "read": (0, 0, 0, 1)},
)


def some_schedule(seed, many, ticks, habit=None):
    """A schedule with the commands of some habit."""
    source = random.Random(seed)
    if habit is None:
        habit = HABITS[source.randrange(len(HABITS))]
    return [some_commands(source, many, habit) for _ in range(ticks)]


def merged(items):
    """The items with each run of adjacent marks as one mark."""
    found = []
    for item in items:
        if isinstance(item, tuple) and found and isinstance(found[-1], tuple):
            found[-1] = ("lost", found[-1][1] + item[1])
        else:
            found.append(item)
    return found


class Watch:
    """A Runtime with what went into it and came out of it, by the commands and the record."""

    def __init__(self, config, test):
        many = len(config.devices)
        self.config = config
        self.test = test
        self.runtime = Runtime(config)
        self.arrived = [[] for _ in range(many)]
        self.taken = [[] for _ in range(many)]
        self.accepted = [[] for _ in range(many)]
        self.sent = [[] for _ in range(many)]
        self.masked = set()
        self.used = {}
        self.pending = set()
        self.ticks = 0

    def step(self, commands):
        """Perform a tick and check what holds at its end."""
        self.follow_commands(commands)
        seen = len(self.runtime.events)
        self.runtime.step(commands)
        events = self.runtime.events[seen:]
        self.test.assertEqual([event[1] for event in events], [self.ticks] * len(events))
        self.follow_budgets(events)
        for event in events:
            self.follow_event(event)
        self.check_bytes()
        self.check_buffers()
        self.check_step(events[-1])
        self.check_lines()
        self.ticks += 1
        self.test.assertEqual(self.runtime.tick, self.ticks)

    def follow_commands(self, commands):
        # What a command finds depends on the commands before it in this tick alone.
        held = [device.incoming.bytes_held() for device in self.runtime.devices]
        room = [device.writing.room - device.writing.held() for device in self.runtime.devices]
        for name, *parts in commands:
            if name == "arrive":
                d, byte = parts
                full = held[d] == self.config.devices[d].queue
                self.arrived[d].append(("lost", 1) if full else byte)
                held[d] += 0 if full else 1
            elif name == "write":
                d, data = parts
                self.accepted[d] += data[:room[d]]
                room[d] -= len(data[:room[d]])
            elif name == "mask":
                self.masked.add(parts[0])
            elif name == "unmask":
                self.masked.discard(parts[0])

    def follow_budgets(self, events):
        test = self.test
        names = [event[0] for event in events]
        test.assertEqual(names.count("period"), 1 if self.ticks % self.config.period == 0 else 0)
        if "period" in names:
            self.used = {}
        name = events[-1][0]
        test.assertIn(name, STEPS)
        test.assertFalse(set(names[:-1]) & set(STEPS))
        which = events[-1][2] if name == "run" else "jobs"
        if name != "idle":
            self.used[which] = self.used.get(which, 0) + 1
            test.assertLessEqual(self.used[which], self.amount(which))

    def amount(self, which):
        if which == "jobs":
            return self.config.jobs
        settings = self.config.devices[which // 2]
        return settings.transmit if which % 2 else settings.receive

    def follow_event(self, event):
        name = event[0]
        if name == "read":
            self.taken[event[2]] += event[3]
        elif name == "sent":
            self.sent[event[2]].append(event[3])
            self.test.assertEqual(self.ticks % self.config.devices[event[2]].pace, 0)
        elif name == "pending":
            self.test.assertNotIn(event[2], self.pending)
            self.pending.add(event[2])
        elif name == "run":
            self.test.assertIn(event[2], self.pending)
            if self.source_of(event[2]) == []:
                self.pending.discard(event[2])

    def source_of(self, line):
        """What the handler of a line has in front of it."""
        device = self.runtime.devices[line // 2]
        return device.transmit_ring.filled_slots() if line % 2 else device.incoming.contents()

    def check_bytes(self):
        for d, device in enumerate(self.runtime.devices):
            self.test.assertEqual(merged(self.taken[d] + device.inbound()), merged(self.arrived[d]))
            self.test.assertEqual(self.sent[d] + device.outbound(), self.accepted[d])
            bytes_held = [item for item in device.reading.contents() if not isinstance(item, tuple)]
            self.test.assertLessEqual(len(bytes_held), device.settings.room)
            self.test.assertLessEqual(len(device.outgoing.contents()), device.settings.sending)
            for ring in (device.receive_ring, device.transmit_ring):
                self.test.assertLessEqual(len(ring.buffers()), device.settings.slots)
                for _, data, _ in ring.filled_slots():
                    self.test.assertLessEqual(len(data), self.config.size)

    def check_buffers(self):
        owned = {}
        for d, device in enumerate(self.runtime.devices):
            for number, ring in ((2 * d, device.receive_ring), (2 * d + 1, device.transmit_ring)):
                for buffer in ring.buffers():
                    self.test.assertNotIn(buffer, owned)
                    owned[buffer] = number
        found = [self.runtime.pool.owner(buffer) for buffer in range(self.config.buffers)]
        self.test.assertEqual(found, [owned.get(buffer) for buffer in range(self.config.buffers)])
        self.test.assertEqual(self.runtime.pool.free(), self.config.buffers - len(owned))

    def check_step(self, event):
        if event[0] != "idle":
            return
        for line in sorted(self.pending - self.masked):
            if self.used.get(line, 0) < self.amount(line):
                self.test.assertFalse(self.line_can(line), (self.ticks, line))
        if self.used.get("jobs", 0) < self.config.jobs:
            for d in range(len(self.runtime.devices)):
                self.test.assertEqual(self.jobs_that_can(d), [], self.ticks)

    def line_can(self, line):
        device = self.runtime.devices[line // 2]
        if line % 2:
            return bool(self.source_of(line)) and len(device.outgoing.contents()) < device.settings.sending
        return bool(self.source_of(line)) and device.receive_ring.open_slot() is not None

    def jobs_that_can(self, d):
        device = self.runtime.devices[d]
        held = [item for item in device.reading.contents() if not isinstance(item, tuple)]
        found = []
        slots = device.receive_ring.filled_slots()
        if slots and len(held) + len(slots[0][1]) <= device.settings.room:
            found.append("deliver")
        if len(device.receive_ring.buffers()) < device.settings.slots and self.may_take(2 * d):
            found.append("refill")
        if device.writing.contents() and len(device.transmit_ring.buffers()) < device.settings.slots:
            if self.may_take(2 * d + 1):
                found.append("stage")
        return found

    def may_take(self, ring):
        owners = [self.runtime.pool.owner(buffer) for buffer in range(self.config.buffers)]
        free = owners.count(None)
        without = len([other for other in range(2 * len(self.config.devices)) if other not in owners])
        return free > 0 and (ring not in owners or free - 1 >= without)

    def check_lines(self):
        for d, device in enumerate(self.runtime.devices):
            settings = device.settings
            held = [item for item in device.incoming.contents() if not isinstance(item, tuple)]
            oldest = device.incoming.oldest_tick()
            waited = oldest is not None and self.ticks - oldest >= settings.wait
            # Only the step of this tick can have emptied what made the line pending.
            if len(held) >= settings.count_limit or waited:
                self.test.assertIn(2 * d, self.pending)
        for line in range(2 * len(self.runtime.devices)):
            self.test.assertIs(self.runtime.lines.is_pending(line), line in self.pending)
            self.test.assertIs(self.runtime.lines.is_masked(line), line in self.masked)
            if line in self.pending:
                self.test.assertTrue(self.source_of(line))


def watched(test, config, schedule):
    """The Watch after each tick of a schedule has been checked."""
    watch = Watch(config, test)
    for commands in schedule:
        watch.step(commands)
    return watch
