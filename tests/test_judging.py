"""The judge: points 0.2, 14.3 and 15.1 to 15.4."""

import copy
import random
import unittest

from runs import HABITS, STEPS, some_config, some_schedule, small_config
from tickrings.config import Config, Settings
from tickrings.judging import Model, first_fault
from tickrings.runtime import Runtime, run

COMMANDS = {"arrived": 4, "lost": 4, "mask": 3, "unmask": 3, "read": 4, "written": 4}


def one(buffers=8, size=4, period=16, jobs=4, **settings):
    return Config(devices=[Settings(**settings)], buffers=buffers, size=size, period=period, jobs=jobs)


def example():
    return one(buffers=2, size=1, period=4, jobs=2)


def state(part):
    """Everything that an object holds, as plain values."""
    if hasattr(part, "__dict__"):
        return {name: state(value) for name, value in vars(part).items()}
    if isinstance(part, (list, tuple)):
        return [type(part).__name__] + [state(each) for each in part]
    return part


def run_and_config(seed, ticks=60, habit=None):
    config = small_config(seed) if seed % 3 else some_config(seed)
    schedule = some_schedule(seed, len(config.devices), ticks, habit)
    return config, run(config, schedule).events


def is_plain(part):
    return isinstance(part, int) and not isinstance(part, bool)


def command_of(event, config):
    """The command whose event this could be, or None."""
    if not isinstance(event, tuple) or not event or not isinstance(event[0], str):
        return None
    if COMMANDS.get(event[0]) != len(event):
        return None
    name, tick, number, *parts = event
    many = len(config.devices) * (2 if name in ("mask", "unmask") else 1)
    if not is_plain(tick) or not is_plain(number) or not 0 <= number < many:
        return None
    if name in ("arrived", "lost"):
        fits = is_plain(parts[0]) and 0 <= parts[0] <= 255
        return ("arrive", number, parts[0]) if fits else None
    if name in ("mask", "unmask"):
        return (name, number)
    if not isinstance(parts[0], list):
        return None
    if name == "read":
        ends_with_a_mark = bool(parts[0]) and isinstance(parts[0][-1], tuple)
        return ("read", number, 1000 if ends_with_a_mark else len([item for item in parts[0] if is_plain(item)]))
    fits = all(is_plain(byte) and 0 <= byte <= 255 for byte in parts[0])
    return ("write", number, parts[0]) if fits else None


def fault_by_replay(config, events):
    """What first_fault should return, found by a runtime that replays the record."""
    runtime = Runtime(config)
    at = 0
    while at < len(events):
        commands = []
        for event in events[at:]:
            command = command_of(event, config)
            if command is None:
                break
            commands.append(command)
        seen = len(runtime.events)
        runtime.step(commands)
        for wanted in runtime.events[seen:]:
            if at == len(events) or state(events[at]) != state(wanted) or repr(events[at]) != repr(wanted):
                return at
            at += 1
    return None


class WholeRecordTest(unittest.TestCase):
    def test_the_examples_of_the_document(self):
        config = example()
        right = [("arrived", 0, 0, 7), ("period", 0), ("pending", 0, 0), ("armed", 0, 0, 0)]
        self.assertIsNone(first_fault(config, right))
        self.assertEqual(first_fault(config, [("lost", 0, 0, 7)]), 0)
        self.assertEqual(first_fault(config, [("arrived", 0, 0, 7), ("period", 0)]), 2)

    def test_the_empty_record(self):
        self.assertIsNone(first_fault(example(), []))

    def test_records_of_runs_of_many_kinds(self):
        for seed in range(60):
            config, events = run_and_config(seed, 150)
            self.assertIsNone(first_fault(config, events), seed)
        for habit in HABITS:
            for seed in range(10):
                config, events = run_and_config(seed, 100, habit)
                self.assertIsNone(first_fault(config, events), seed)

    def test_records_of_runs_in_which_everything_is_full(self):
        for size in (1, 3, 5):
            config = Config(devices=[Settings(queue=3, slots=3, receive=4, sending=2, pace=3, transmit=3)] * 2, buffers=9,
                            size=size, period=24, jobs=10)
            for reads in (0, 1, 7):
                tick = [("arrive", d, 8) for d in (0, 1, 1)] + [("write", 1, [1] * 9), ("write", 0, [2])]
                schedule = [tick if at % 5 else [("read", 0, reads), ("read", 1, 2)] for at in range(400)]
                self.assertIsNone(first_fault(config, run(config, schedule).events))

    def test_records_that_are_cut_between_two_ticks_and_within_one(self):
        for seed in range(12):
            config, events = run_and_config(seed, 40)
            for end in range(len(events) + 1):
                whole = end == 0 or events[end - 1][0] in STEPS
                self.assertEqual(first_fault(config, events[:end]), None if whole else end, (seed, end))

    def test_a_record_with_commands_alone_is_not_complete(self):
        config = example()
        self.assertEqual(first_fault(config, [("mask", 0, 0)]), 1)
        self.assertEqual(first_fault(config, [("mask", 0, 0), ("read", 0, 0, [])]), 2)
        whole = run(config, [[], []]).events
        self.assertEqual(first_fault(config, whole + [("unmask", 2, 1)]), len(whole) + 1)

    def test_a_record_of_another_configuration(self):
        events = run(one(period=8), [[]] * 10).events
        self.assertIsNone(first_fault(one(period=8), events))
        self.assertEqual(first_fault(one(period=9), events), events.index(("period", 8)))

    def test_the_record_does_not_change(self):
        for seed in range(6):
            config, events = run_and_config(seed)
            for record in (events, events[:-1], events[1:], events + [("idle", 0)], events + [[1], None, "idle"]):
                before, kept = copy.deepcopy(record), [id(event) for event in record]
                first_fault(config, record)
                self.assertEqual([record, [id(event) for event in record]], [before, kept])

    def test_the_same_record_twice(self):
        config, events = run_and_config(4)
        found = [first_fault(config, record) for record in (events, events[:-1], events, events[:-1])]
        self.assertEqual(found, [None, len(events) - 1] * 2)


class ChangedRecordTest(unittest.TestCase):
    def check(self, config, record, at=None):
        wanted = fault_by_replay(config, record)
        self.assertEqual(first_fault(config, record), wanted, record[max(0, (wanted or 0) - 3):][:6])
        if at is not None:
            self.assertEqual(wanted, at)

    def records(self, many=6, ticks=14):
        for seed in range(many):
            yield run_and_config(seed, ticks, HABITS[seed % len(HABITS)])

    def test_each_event_left_out(self):
        for config, events in self.records():
            for at, event in enumerate(events):
                record = events[:at] + events[at + 1:]
                # Without its command, a later event is the first that cannot stand. Without the
                # whole last tick, nothing is missing.
                alone = at == len(events) - 1 and events[at - 1][0] in STEPS
                self.check(config, record, None if event[0] in COMMANDS or alone else at)

    def test_each_event_repeated(self):
        for config, events in self.records():
            for at, event in enumerate(events):
                record = events[:at + 1] + events[at:]
                self.check(config, record, None if event[0] in COMMANDS else at + 1)

    def test_each_event_with_its_neighbour_in_its_place(self):
        for config, events in self.records():
            for at in range(len(events) - 1):
                record = events[:at] + [events[at + 1], events[at]] + events[at + 2:]
                self.check(config, record, None if events[at][0] in COMMANDS else at)

    def test_each_event_moved_within_its_tick(self):
        source = random.Random(1)
        for config, events in self.records(6):
            for at, event in enumerate(events):
                tick = [place for place, other in enumerate(events) if other[1] == event[1]]
                rest = events[:at] + events[at + 1:]
                to = source.choice(tick)
                self.check(config, rest[:to] + [event] + rest[to:])

    def test_each_event_with_another_name(self):
        names = list(COMMANDS) + list(STEPS) + ["sent", "period", "closed", "pending", "", "Idle", "command"]
        source = random.Random(2)
        for config, events in self.records():
            for at, event in enumerate(events):
                for name in source.sample(names, 4) + [None, 0, ("idle",), ["idle"]]:
                    if name != event[0]:
                        self.check(config, events[:at] + [(name,) + event[1:]] + events[at + 1:])

    def test_each_event_with_another_tick(self):
        for config, events in self.records():
            for at, event in enumerate(events):
                for tick in (event[1] - 1, event[1] + 1, -1, None, str(event[1]), [event[1]], (event[1],)):
                    self.check(config, events[:at] + [(event[0], tick) + event[2:]] + events[at + 1:], at)

    def test_each_event_with_another_number_of_parts(self):
        for config, events in self.records(6):
            for at, event in enumerate(events):
                for changed in (event[:-1], event + (0,), event + (event[-1],), (), event[:1], event[1:]):
                    self.check(config, events[:at] + [changed] + events[at + 1:], at)

    def others(self, part):
        """Parts near a part, and parts of other kinds."""
        if isinstance(part, list):
            found = [tuple(part), None, part + [5], part[:-1] or [9], part[::-1], [part], 0, "", [True] + part[1:]]
            found += [part[:at] + [("lost", 1)] + part[at:] for at in range(len(part) + 1)]
            return found + [part + [256], part + [-1], part + [True], part + [None], part + [[1]]]
        if isinstance(part, tuple):
            return [list(part), ("lost", part[1] + 1), ("lost", part[1] - 1), ("lost", True), ("lost", 1.0 * part[1]),
                    ("found", part[1]), ("lost",), part + (1,), part[1], None]
        return [part + 1, part - 1, part + 256, float(part), str(part), None, [part], (part,), ("lost", 1), bool(part),
                not part]

    def test_each_part_changed(self):
        for config, events in self.records(6):
            for at, event in enumerate(events):
                for place in range(2, len(event)):
                    for part in self.others(event[place]):
                        if state(part) != state(event[place]) or repr(part) != repr(event[place]):
                            changed = event[:place] + (part,) + event[place + 1:]
                            self.check(config, events[:at] + [changed] + events[at + 1:])

    def test_a_number_as_true_or_false_or_a_fraction(self):
        for config, events in self.records(6):
            for at, event in enumerate(events):
                for place in range(1, len(event)):
                    part = event[place]
                    changes = [float(part)] if isinstance(part, int) else []
                    changes += [bool(part)] if isinstance(part, int) and part in (0, 1) else []
                    for change in changes:
                        changed = event[:place] + (change,) + event[place + 1:]
                        self.assertEqual(changed, event)
                        self.assertEqual(first_fault(config, events[:at] + [changed] + events[at + 1:]), at)

    def test_events_that_are_no_tuples(self):
        for config, events in self.records(6):
            for at, event in enumerate(events):
                for changed in (list(event), None, event[0], 0, True, {}, set(), [event], (event,), b"idle"):
                    self.assertEqual(first_fault(config, events[:at] + [changed] + events[at + 1:]), at)

    def test_arrived_for_lost_and_the_reverse(self):
        config = one(queue=2)
        events = run(config, [[("arrive", 0, 1), ("arrive", 0, 2), ("arrive", 0, 3), ("arrive", 0, 4)]]).events
        self.assertEqual([event[0] for event in events[:4]], ["arrived", "arrived", "lost", "lost"])
        for at, name in enumerate(("lost", "lost", "arrived", "arrived")):
            self.assertEqual(first_fault(config, events[:at] + [(name,) + events[at][1:]] + events[at + 1:]), at)

    def test_several_changes_at_random(self):
        source = random.Random(3)
        for seed in range(150):
            config, events = run_and_config(seed % 30, 25)
            record = copy.deepcopy(events)
            for _ in range(source.randint(1, 3)):
                kind = source.randrange(3)
                at = source.randrange(len(record))
                if kind == 0 and len(record) > 1:
                    record.pop(at)
                elif kind == 1:
                    record.insert(at, source.choice(events))
                else:
                    record[at] = source.choice(events)
            self.check(config, record)


class DevicesAndLinesTest(unittest.TestCase):
    def test_devices_that_do_not_exist(self):
        for many in (1, 2, 4):
            config = Config(devices=[Settings()] * many, buffers=8)
            for name, part in (("arrived", 7), ("read", []), ("written", [])):
                for d in (0, many - 1):
                    self.assertEqual(first_fault(config, [(name, 0, d, part)]), 1)
                for d in (-1, many, 99, -many):
                    self.assertEqual(first_fault(config, [(name, 0, d, part)]), 0)

    def test_lines_that_do_not_exist(self):
        for many in (1, 2, 4):
            config = Config(devices=[Settings()] * many, buffers=8)
            for name in ("mask", "unmask"):
                for line in (0, 2 * many - 1):
                    self.assertEqual(first_fault(config, [(name, 0, line)]), 1)
                for line in (-1, 2 * many, 99, -2 * many):
                    self.assertEqual(first_fault(config, [(name, 0, line)]), 0)

    def test_a_full_queue_of_another_device(self):
        config = Config(devices=[Settings(queue=1), Settings(queue=1)])
        self.assertEqual(first_fault(config, [("arrived", 0, 1, 5), ("lost", 0, 0, 5)]), 1)
        self.assertEqual(first_fault(config, [("arrived", 0, 1, 5), ("lost", 0, 1, 5)]), 2)


class ModelCase(unittest.TestCase):
    def filled(self):
        """A model whose read stream holds 1, 2, a mark, 3 and a mark, in tick 30, with all lines masked."""
        config = one(queue=2, receive=8, size=2, slots=8, period=24, jobs=12, buffers=16)
        schedule = [[] for _ in range(30)]
        schedule[0] = [("arrive", 0, byte) for byte in (1, 2, 9)]
        schedule[8] = [("arrive", 0, 3)]
        schedule[12] = [("mask", 0)] + [("arrive", 0, byte) for byte in (4, 5, 9, 9)]
        schedule[13] = [("unmask", 0)]
        runtime = run(config, schedule)
        self.assertEqual(runtime.devices[0].reading.contents(),
                         [1, 2, ("lost", 1), 3, 4, 5, ("lost", 2)])
        model = Model(config)
        at = 0
        while at < len(runtime.events):
            while at < len(runtime.events) and model.accept(runtime.events[at]):
                at += 1
            at += len(model.rest_of_tick())
        return model

    def refused(self, model, *events):
        """Check that the model refuses the events and does not change."""
        before = state(model)
        for event in events:
            kept = copy.deepcopy(event)
            self.assertIs(model.accept(event), False, event)
            self.assertEqual(state(model), before, event)
            self.assertEqual(event, kept)

    def accepted(self, model, *events):
        for event in events:
            kept = copy.deepcopy(event)
            self.assertIs(model.accept(event), True, event)
            self.assertEqual(event, kept)


class AcceptTest(ModelCase):
    def test_arrived_and_lost(self):
        model = Model(one(queue=2))
        self.refused(model, ("lost", 0, 0, 7))
        self.accepted(model, ("arrived", 0, 0, 0))
        self.refused(model, ("lost", 0, 0, 7))
        self.accepted(model, ("arrived", 0, 0, 255))
        self.refused(model, ("arrived", 0, 0, 7))
        self.accepted(model, ("lost", 0, 0, 0), ("lost", 0, 0, 255))
        self.refused(model, ("arrived", 0, 0, 7))

    def test_the_kinds_of_a_byte(self):
        model = Model(one(queue=1))
        wrong = (-1, 256, True, False, None, 1.0, "1", [1], (1,), ("lost", 1), b"1")
        self.refused(model, *[("arrived", 0, 0, byte) for byte in wrong])
        self.accepted(model, ("arrived", 0, 0, 1))
        self.refused(model, *[("lost", 0, 0, byte) for byte in wrong])

    def test_mask_and_unmask(self):
        model = Model(one())
        self.accepted(model, ("unmask", 0, 0), ("mask", 0, 1), ("mask", 0, 1), ("mask", 0, 0), ("unmask", 0, 0))
        self.refused(model, ("mask", 0, 2), ("unmask", 0, -1), ("mask", 0, True), ("unmask", 0, None), ("mask", 0, "0"))

    def test_masks_count_in_the_rest_of_the_tick(self):
        for names, last in ((["mask"], "idle"), (["mask", "unmask"], "run"), (["unmask", "mask"], "idle")):
            model = Model(one(slots=1))
            model.rest_of_tick()
            self.accepted(model, ("arrived", 1, 0, 5), *[(name, 1, 0) for name in names])
            self.assertEqual(model.rest_of_tick()[-1][0], last)

    def test_read_from_an_empty_stream(self):
        model = Model(one())
        self.accepted(model, ("read", 0, 0, []), ("read", 0, 0, []))
        self.refused(model, ("read", 0, 0, [1]), ("read", 0, 0, [("lost", 1)]), ("read", 0, 0, ()), ("read", 0, 0, None),
                     ("read", 0, 0, 0), ("read", 0, 0, ""), ("read", 0, 0, {}))

    def test_the_items_that_a_read_of_some_number_of_bytes_gives(self):
        whole = [1, 2, ("lost", 1), 3, 4, 5, ("lost", 2)]
        for many in range(len(whole) + 1):
            # A mark behind the last byte that was asked for stays, unless all is read.
            if many == 3:
                self.refused(self.filled(), ("read", 30, 0, whole[:many]))
            else:
                self.accepted(self.filled(), ("read", 30, 0, whole[:many]))

    def test_reads_with_more_fewer_or_other_items(self):
        whole = [1, 2, ("lost", 1), 3, 4, 5, ("lost", 2)]
        wrong = [whole + [6], whole + [("lost", 1)], whole[1:], [2], [1, 3], [1, 2, 3], [("lost", 1)], [True],
                 [1, 2, ("lost", 2), 3], [1, 2, ("lost", True), 3], [1, 2, ["lost", 1], 3], [1, 2, ("lost", 1, 1), 3],
                 [1, 2, ("lost", 1.0), 3], [1.0], ["1"], [None], whole[:-1] + [("lost", 1)], whole[:-1] + [("lost", 1)] * 2]
        self.refused(self.filled(), *[("read", 30, 0, items) for items in wrong])
        self.refused(self.filled(), ("read", 30, 0, tuple(whole)), ("read", 30, 0, (1,)), ("read", 29, 0, [1]))

    def test_a_mark_that_is_left_alone(self):
        model = self.filled()
        self.accepted(model, ("read", 30, 0, [1, 2, ("lost", 1), 3, 4, 5]))
        self.refused(model, ("read", 30, 0, [5]), ("read", 30, 0, [("lost", 1)]))
        self.accepted(model, ("read", 30, 0, []), ("read", 30, 0, [("lost", 2)]))
        self.refused(model, ("read", 30, 0, [("lost", 2)]))

    def test_several_reads_of_one_tick(self):
        model = self.filled()
        self.accepted(model, ("read", 30, 0, [1]), ("read", 30, 0, [2]), ("read", 30, 0, [("lost", 1), 3]),
                      ("read", 30, 0, [4, 5, ("lost", 2)]), ("read", 30, 0, []))

    def test_a_read_of_more_than_64_bytes(self):
        config = one(room=64, queue=16, receive=20, period=64, size=16, slots=8, jobs=40, buffers=16)
        schedule = [[] for _ in range(320)]
        for tick in range(0, 256, 64):
            schedule[tick] = [("arrive", 0, tick)] * 16
        schedule[192].append(("arrive", 0, 1))
        whole = [tick for tick in range(0, 256, 64) for _ in range(16)] + [("lost", 1)]
        runtime = run(config, schedule)
        self.assertEqual(runtime.devices[0].reading.contents(), whole)
        for items in (whole, whole[:64]):
            self.assertEqual(first_fault(config, runtime.events + [("read", 320, 0, items)]), len(runtime.events) + 1)
        self.assertEqual(first_fault(config, runtime.events + [("read", 320, 0, whole + [1])]), len(runtime.events))

    def test_written(self):
        model = Model(one(room=16))
        self.accepted(model, ("written", 0, 0, []), ("written", 0, 0, list(range(10))), ("written", 0, 0, [255, 0]))
        self.refused(model, ("written", 0, 0, [1] * 5), ("written", 0, 0, [1] * 64))
        self.accepted(model, ("written", 0, 0, [1] * 4), ("written", 0, 0, []))
        self.refused(model, ("written", 0, 0, [1]))

    def test_the_kinds_of_what_is_written(self):
        wrong = [(), (1,), None, 0, "", "ab", b"ab", {}, [256], [-1], [1, True], [False], [None], [1.0], ["1"], [[1]],
                 [("lost", 1)]]
        self.refused(Model(one()), *[("written", 0, 0, data) for data in wrong])

    def test_the_present_tick_alone(self):
        model = Model(one(queue=1))
        events = [("arrived", 7), ("mask",), ("unmask",), ("read", []), ("written", [1])]

        def at(tick):
            return [(name, tick, 0, *parts) for name, *parts in events]
        for present in range(4):
            for tick in (present - 1, present + 1, -present - 1, None, str(present), float(present), [present]):
                self.refused(model, *at(tick))
            if present < 2:
                self.refused(model, *at(bool(present)))
            self.accepted(model, *at(present)[1:])
            model.rest_of_tick()

    def test_events_that_are_no_events_of_commands(self):
        model = Model(one())
        self.refused(
            model, ("sent", 0, 0, 1), ("period", 0), ("closed", 0, 0), ("pending", 0, 0), ("run", 0, 0, 7),
            ("delivered", 0, 0, 1, 0), ("armed", 0, 0, 0), ("staged", 0, 0, 1), ("idle", 0), ("arrive", 0, 0, 7),
            ("write", 0, 0, [1]), ("", 0), (), None, 0, True, "mask", ["mask", 0, 0], [], {}, ("mask",), ("mask", 0),
            ("mask", 0, 0, 0), ("arrived", 0, 0), ("arrived", 0, 0, 7, 7), ("read", 0, 0), ("read", 0, 0, [], []),
            ("written", 0, 0), ("written", 0, [], 0), (["mask"], 0, 0), (("mask",), 0, 0), ({}, 0, 0), (None, 0, 0),
            (b"mask", 0, 0), (True, 0, 0), ("MASK", 0, 0), ("mask ", 0, 0), ("mask", 0, 0.0), ("mask", 0.0, 0))

    def test_devices_and_their_kinds(self):
        model = Model(Config(devices=[Settings()] * 2))
        wrong = (-1, 2, True, False, None, 0.0, "0", [0], (0,))
        for name, part in (("arrived", 7), ("read", []), ("written", [])):
            self.refused(model, *[(name, 0, d, part) for d in wrong])
            self.accepted(model, (name, 0, 0, part), (name, 0, 1, part))


class RestOfTickTest(ModelCase):
    def test_it_tells_what_a_run_tells(self):
        for seed in range(40):
            config = small_config(seed) if seed % 3 else some_config(seed)
            schedule = some_schedule(seed, len(config.devices), 60)
            runtime, model = Runtime(config), Model(config)
            for commands in schedule:
                seen = len(runtime.events)
                runtime.step(commands)
                events = runtime.events[seen:]
                self.accepted(model, *events[:len(commands)])
                self.refused(model, events[len(commands)])
                self.assertEqual(state(model.rest_of_tick()), state(events[len(commands):]))

    def test_ticks_without_commands(self):
        model = Model(one(slots=1, period=8))
        found = [model.rest_of_tick() for _ in range(10)]
        self.assertEqual(found[0], [("period", 0), ("armed", 0, 0, 0)])
        self.assertEqual(found[1:8], [[("idle", tick)] for tick in range(1, 8)])
        self.assertEqual(found[8:], [[("period", 8), ("idle", 8)], [("idle", 9)]])

    def test_refused_events_between_the_others(self):
        config = small_config(5)
        schedule = some_schedule(5, len(config.devices), 60, HABITS[1])
        model = Model(config)
        at = 0
        events = run(config, schedule).events
        for tick, commands in enumerate(schedule):
            for event in events[at:at + len(commands)]:
                self.refused(model, ("read", tick, 0, [("lost", 999)]), ("arrived", tick + 1, 0, 1), ("idle", tick))
                self.accepted(model, event)
            at += len(commands)
            rest = model.rest_of_tick()
            self.assertEqual(rest, events[at:at + len(rest)])
            at += len(rest)
        self.assertEqual(at, len(events))

    def test_a_returned_list_can_be_changed(self):
        config = one(queue=16)
        model, other = Model(config), Model(config)
        for tick in range(6):
            for each in (model, other):
                self.accepted(each, ("arrived", tick, 0, tick))
            other.rest_of_tick().clear()
            model.rest_of_tick()
            self.assertEqual(state(model), state(other))

    def test_a_list_that_was_accepted_is_not_kept(self):
        model = Model(one(size=4))
        data = [1, 2, 3]
        model.accept(("written", 0, 0, data))
        data.clear()
        model.rest_of_tick()
        self.assertEqual(model.rest_of_tick(), [("staged", 1, 0, 3)])

    def test_two_models_of_one_configuration(self):
        config = example()
        first, second = Model(config), Model(config)
        first.accept(("arrived", 0, 0, 7))
        first.rest_of_tick()
        self.assertEqual(state(second), state(Model(config)))
        self.assertEqual(second.rest_of_tick(), [("period", 0), ("armed", 0, 0, 0)])


if __name__ == "__main__":
    unittest.main()
