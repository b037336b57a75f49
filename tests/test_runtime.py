"""The runtime: points 0.1, 0.2, 0.4, 0.5, 0.7, 0.9, 5.1 to 5.3, 9.1 to 9.3 and 14.1 to 14.3."""

import copy
import unittest

from runs import some_config, some_schedule, small_config
from tickrings.budgets import Budgets
from tickrings.config import Config, Settings
from tickrings.device import Device
from tickrings.lines import Lines
from tickrings.pool import Pool
from tickrings.runtime import Runtime, run


def one(buffers=8, size=4, period=16, jobs=4, **settings):
    """A configuration with one device."""
    return Config(devices=[Settings(**settings)], buffers=buffers, size=size, period=period, jobs=jobs)


def several(many, buffers=8, size=4, period=40, jobs=4, **settings):
    """A configuration with several devices of the same settings."""
    return Config(devices=[Settings(**settings)] * many, buffers=buffers, size=size, period=period, jobs=jobs)


def ticks_of(config, schedule, more=0):
    """The list of the events of each tick, without the tick in them."""
    schedule = schedule + [[]] * more
    rows = [[] for _ in schedule]
    for name, tick, *parts in run(config, schedule).events:
        rows[tick].append((name, *parts))
    return rows


def arrive(d, *data):
    return [("arrive", d, byte) for byte in data]


class CreationTest(unittest.TestCase):
    def test_the_fields_at_the_start(self):
        config = several(2, buffers=6)
        runtime = Runtime(config)
        self.assertIs(runtime.config, config)
        self.assertEqual([runtime.tick, runtime.turn, runtime.events], [0, 0, []])
        kinds = [type(runtime.pool), type(runtime.lines), type(runtime.budgets)]
        self.assertEqual(kinds, [Pool, Lines, Budgets])
        self.assertEqual([type(device) for device in runtime.devices], [Device, Device])
        self.assertEqual([runtime.pool.free(), runtime.lines.candidates()], [6, []])
        self.assertEqual([runtime.lines.is_masked(line) for line in range(4)], [False] * 4)

    def test_the_devices_have_their_settings_and_one_pool(self):
        config = Config(devices=[Settings(queue=2, idle=9), Settings(queue=3, sending=5)], size=7)
        runtime = Runtime(config)
        for d, device in enumerate(runtime.devices):
            self.assertEqual(device.index, d)
            self.assertIs(device.settings, config.devices[d])
            self.assertIs(device.sender.pool, runtime.pool)
            self.assertEqual(device.receiver.size, 7)

    def test_the_budgets(self):
        config = Config(devices=[Settings(receive=2, transmit=3), Settings(receive=4, transmit=1)], period=20, jobs=6)
        budgets = Runtime(config).budgets
        self.assertEqual([budgets.left(which) for which in range(5)], [2, 3, 4, 1, 6])

    def test_a_tick_counts(self):
        runtime = Runtime(one())
        for tick in range(5):
            self.assertEqual(runtime.tick, tick)
            self.assertIsNone(runtime.step([]))
        self.assertEqual([event[1] for event in runtime.events if event[0] in ("armed", "idle")], [0, 1, 2, 3, 4])


class CommandTest(unittest.TestCase):
    def commands(self, config, *commands):
        """The events of the commands of tick 0, which come before the first period."""
        events = run(config, [list(commands)]).events
        return events[:events.index(("period", 0))]

    def test_arrive(self):
        found = self.commands(one(queue=2), *arrive(0, 0, 255, 9, 8))
        self.assertEqual(found, [("arrived", 0, 0, 0), ("arrived", 0, 0, 255), ("lost", 0, 0, 9), ("lost", 0, 0, 8)])

    def test_bytes_that_are_lost_leave_a_mark(self):
        runtime = run(one(queue=2), [[("mask", 0)] + arrive(0, 1, 2, 3), arrive(0, 4)])
        self.assertEqual(runtime.devices[0].incoming.contents(), [1, 2, ("lost", 2)])
        self.assertEqual(runtime.devices[0].inbound(), [1, 2, ("lost", 2)])

    def test_a_byte_arrives_at_its_own_device(self):
        found = run(several(3), [[("mask", 4), ("mask", 2)] + arrive(2, 5) + arrive(1, 6)])
        self.assertEqual([device.incoming.contents() for device in found.devices], [[], [6], [5]])
        self.assertEqual(found.events[2:4], [("arrived", 0, 2, 5), ("arrived", 0, 1, 6)])

    def test_the_tick_of_a_byte_is_the_present_one(self):
        runtime = run(one(count=2, wait=9), [[], [], arrive(0, 1)])
        self.assertEqual(runtime.devices[0].incoming.oldest_tick(), 2)

    def test_mask_and_unmask(self):
        config = several(2)
        runtime = run(config, [[("mask", 3), ("mask", 0), ("mask", 3), ("unmask", 0), ("unmask", 1)]])
        self.assertEqual(runtime.events[:5], [("mask", 0, 3), ("mask", 0, 0), ("mask", 0, 3), ("unmask", 0, 0),
                                              ("unmask", 0, 1)])
        self.assertEqual([runtime.lines.is_masked(line) for line in range(4)], [False, False, False, True])

    def read(self, n):
        """The last tick of a run that reads from a stream with the bytes 1 and 2 and a mark."""
        config = one(queue=2, count=2, receive=3, period=8, size=1, slots=3)
        schedule = [arrive(0, 1, 2, 3)] + [[]] * 13
        runtime = run(config, schedule)
        self.assertEqual(runtime.devices[0].reading.contents(), [1, 2, ("lost", 1)])
        runtime.step([("read", 0, n)])
        return runtime

    def test_read(self):
        for n, items in ((0, []), (1, [1]), (2, [1, 2]), (3, [1, 2, ("lost", 1)]), (64, [1, 2, ("lost", 1)])):
            runtime = self.read(n)
            self.assertEqual(runtime.events[-2:], [("read", 14, 0, items), ("idle", 14)])
            self.assertEqual(runtime.devices[0].reading.contents(), [1, 2, ("lost", 1)][len(items):])

    def test_read_from_an_empty_stream(self):
        for n in (0, 1, 64):
            self.assertEqual(self.commands(one(), ("read", 0, n)), [("read", 0, 0, [])])

    def test_a_reader_does_not_find_what_is_delivered_in_the_same_tick(self):
        rows = ticks_of(one(size=1), [arrive(0, 7), [], [("read", 0, 1)], [("read", 0, 1)]])
        self.assertEqual(rows[2], [("read", 0, []), ("delivered", 0, 1, 0)])
        self.assertEqual(rows[3][0], ("read", 0, [7]))

    def test_write(self):
        full = list(range(16))
        for data in ([], [0], [1, 2, 255], full):
            self.assertEqual(self.commands(one(), ("write", 0, data)), [("written", 0, 0, data)])

    def test_a_write_that_fits_in_part_or_not_at_all(self):
        data = list(range(100, 164))
        found = self.commands(one(room=20), ("write", 0, data[:18]), ("write", 0, data[18:]), ("write", 0, [9]),
                              ("write", 0, []))
        self.assertEqual(found, [("written", 0, 0, data[:18]), ("written", 0, 0, data[18:20]),
                                 ("written", 0, 0, []), ("written", 0, 0, [])])
        runtime = run(one(room=20), [[("write", 0, data)]])
        self.assertEqual(runtime.devices[0].outbound(), data[:20])

    def test_the_commands_are_performed_in_their_order(self):
        commands = [("write", 1, [1]), ("arrive", 1, 2), ("mask", 1), ("read", 0, 3), ("arrive", 0, 4), ("unmask", 1),
                    ("write", 0, [5])]
        found = [event[0] for event in self.commands(several(2), *commands)]
        self.assertEqual(found, ["written", "arrived", "mask", "read", "arrived", "unmask", "written"])

    def test_no_command(self):
        self.assertEqual(self.commands(one()), [])


class SendingTest(unittest.TestCase):
    def sent(self, pace, ticks=50):
        config = one(pace=pace, size=8, transmit=5, sending=2)
        found = run(config, [[("write", 0, [1, 2, 3, 4, 5])]] + [[]] * ticks).events
        return [(event[1], event[3]) for event in found if event[0] == "sent"]

    def test_pace_1_and_more(self):
        # Staged in tick 1, moved from tick 2 on; each byte is sent in the next tick that fits.
        for pace in (1, 2, 3, 7, 16):
            found = self.sent(pace, 100)
            self.assertEqual([byte for _, byte in found], [1, 2, 3, 4, 5])
            first = min(tick for tick in range(3, 40) if tick % pace == 0)
            self.assertEqual([tick for tick, _ in found], [first + pace * k for k in range(5)], pace)

    def test_one_byte_in_a_tick(self):
        found = self.sent(1)
        self.assertEqual([byte for _, byte in found], [1, 2, 3, 4, 5])
        self.assertEqual(len({tick for tick, _ in found}), 5)

    def test_nothing_to_send(self):
        self.assertEqual([row for row in ticks_of(one(), [], 20) if row[0][0] == "sent"], [])

    def test_the_devices_send_in_ascending_order(self):
        config = several(3, transmit=2, buffers=12, jobs=9)
        schedule = [[("write", 2, [30]), ("write", 1, [20]), ("write", 0, [10])]]
        runtime = run(config, schedule)
        for device, byte in zip(runtime.devices, (11, 21, 31)):
            device.outgoing.put(byte)
        runtime.step([])
        found = [event for event in runtime.events if event[1] == 1][:3]
        self.assertEqual(found, [("sent", 1, 0, 11), ("sent", 1, 1, 21), ("sent", 1, 2, 31)])

    def test_each_device_has_its_own_pace(self):
        config = Config(devices=[Settings(pace=2, sending=9), Settings(pace=3, sending=9)], buffers=8)
        runtime = Runtime(config)
        for device in runtime.devices:
            for byte in range(9):
                device.outgoing.put(byte)
        for _ in range(13):
            runtime.step([])
        found = [(event[1], event[2]) for event in runtime.events if event[0] == "sent"]
        self.assertEqual(found, [(0, 0), (0, 1), (2, 0), (3, 1), (4, 0), (6, 0), (6, 1), (8, 0), (9, 1), (10, 0),
                                 (12, 0), (12, 1)])

    def test_a_byte_is_not_sent_in_the_tick_in_which_it_is_moved(self):
        rows = ticks_of(one(), [[("write", 0, [7])]], 4)
        self.assertEqual(rows[1:4], [[("staged", 0, 1)], [("pending", 1), ("run", 1, 7)], [("sent", 0, 7), ("armed", 0, 2)]])


class PeriodTest(unittest.TestCase):
    def test_the_ticks_in_which_the_budgets_become_full(self):
        for period in (7, 16, 64):
            events = run(one(period=period), [[]] * 130).events
            found = [event for event in events if event[0] == "period"]
            self.assertEqual(found, [("period", tick) for tick in range(0, 130, period)])

    def test_all_budgets_become_full(self):
        config = Config(devices=[Settings(receive=2, transmit=3), Settings()], period=12, jobs=5)
        runtime = Runtime(config)
        for _ in range(24):
            runtime.step([])
            for which in range(5):
                while runtime.budgets.left(which):
                    runtime.budgets.charge(which)
        self.assertEqual([runtime.budgets.left(which) for which in range(5)], [0] * 5)
        runtime.step([("mask", 0)])
        # The step of this tick, which arms a slot, is charged to the full budget.
        self.assertEqual([runtime.budgets.left(which) for which in range(5)], [2, 3, 1, 1, 4])

    def test_a_period_of_the_sum_of_the_budgets(self):
        events = run(one(period=3, jobs=1), [[]] * 7).events
        self.assertEqual([event for event in events if event[0] == "period"], [("period", 0), ("period", 3), ("period", 6)])

    def test_a_budget_of_a_receive_line_that_is_used_up(self):
        rows = ticks_of(one(receive=2, period=8, jobs=1, idle=32), [arrive(0, 1, 2, 3, 4)], 10)
        self.assertEqual([row[-1] for row in rows],
                         [("armed", 0, 0), ("run", 0, 1), ("run", 0, 2)] + [("idle",)] * 5
                         + [("run", 0, 3), ("run", 0, 4), ("delivered", 0, 4, 0)])
        # A step in the tick in which the budgets become full is charged to the new period.
        rows = ticks_of(one(receive=1, period=8, jobs=1, idle=32), [[]] * 8 + [arrive(0, 1, 2)], 9)
        self.assertEqual([rows[8][-1], rows[16][-1]], [("run", 0, 1), ("run", 0, 2)])

    def test_a_budget_of_a_transmit_line_that_is_used_up(self):
        rows = ticks_of(one(transmit=2, period=8, jobs=5), [[("write", 0, [1, 2, 3])]], 9)
        self.assertEqual([tick for tick, row in enumerate(rows) if row[-1][0] == "run"], [2, 3, 8])

    def test_the_job_budget_that_is_used_up(self):
        rows = ticks_of(one(slots=9, period=5, jobs=2, buffers=20), [], 11)
        self.assertEqual([row[-1][0] for row in rows], ["armed", "armed", "idle", "idle", "idle"] * 2 + ["armed"])

    def test_handlers_work_when_the_job_budget_is_used_up(self):
        rows = ticks_of(one(jobs=1, receive=2), [[], arrive(0, 1)], 1)
        self.assertEqual([row[-1] for row in rows], [("armed", 0, 0), ("run", 0, 1), ("idle",)])


class ReceiveLineTest(unittest.TestCase):
    def pending(self, config, schedule, more=0):
        """The ticks in which lines become pending."""
        events = run(config, schedule + [[]] * more).events
        return [event[1:] for event in events if event[0] == "pending"]

    def test_enough_bytes(self):
        config = one(count=3, wait=32)
        for many in (1, 2):
            self.assertEqual(self.pending(config, [arrive(0, *range(many))], 20), [])
        self.assertEqual(self.pending(config, [arrive(0, 1, 2, 3)], 20), [(0, 0)])
        self.assertEqual(self.pending(config, [arrive(0, 1), arrive(0, 2), [], arrive(0, 3)], 20), [(3, 0)])

    def test_waiting(self):
        for wait in (1, 2, 5, 32):
            found = self.pending(one(count=4, wait=wait), [[], [], arrive(0, 1)], 50)
            self.assertEqual(found, [(2 + wait, 0)])

    def test_the_oldest_item_decides(self):
        schedule = [[], arrive(0, 1), [], arrive(0, 2)]
        self.assertEqual(self.pending(one(count=4, wait=6), schedule, 20), [(7, 0)])

    def test_a_few_bytes_are_collected(self):
        rows = ticks_of(one(count=3, wait=9, receive=3), [[], [], arrive(0, 1), arrive(0, 2), arrive(0, 3)], 3)
        self.assertEqual([row[-1][0] for row in rows], ["armed", "armed", "idle", "idle", "run", "run", "run", "idle"])

    def test_a_mark_alone_waits_as_an_item(self):
        config = one(queue=1, count=1, wait=3, receive=2, period=16)
        # The byte goes to the slot in tick 2; the mark of tick 0 has waited long enough in tick 3.
        rows = ticks_of(config, [arrive(0, 1, 2)], 4)
        self.assertEqual([row[-1] for row in rows[:3]], [("armed", 0, 0), ("run", 0, 1), ("run", 0, ("lost", 1))])

    def test_it_stays_pending_until_the_queue_is_empty(self):
        config = one(count=3, wait=32, receive=4)
        runtime = run(config, [arrive(0, 1, 2, 3)])
        found = []
        for _ in range(4):
            found.append((runtime.lines.is_pending(0), len(runtime.devices[0].incoming.contents())))
            runtime.step([])
        self.assertEqual(found, [(True, 3), (True, 2), (True, 1), (False, 0)])
        self.assertEqual([event[1:] for event in runtime.events if event[0] == "pending"], [(0, 0)])

    def test_it_becomes_pending_again(self):
        schedule = [arrive(0, 1), [], [], [], arrive(0, 2), [], arrive(0, 3)]
        self.assertEqual(self.pending(one(receive=8), schedule, 5), [(0, 0), (4, 0), (6, 0)])

    def test_pending_is_told_when_a_line_becomes_it_and_not_when_it_is(self):
        schedule = [arrive(0, 1), arrive(0, 2), arrive(0, 3), arrive(0, 4), []]
        self.assertEqual(self.pending(one(receive=1), schedule, 3), [(0, 0)])

    def test_a_byte_that_arrives_before_the_line_is_cleared_keeps_it_pending(self):
        rows = ticks_of(one(receive=4), [[], [], arrive(0, 1), arrive(0, 2)], 1)
        self.assertEqual(rows[2:], [[("arrived", 0, 1), ("pending", 0), ("run", 0, 1)],
                                    [("arrived", 0, 2), ("pending", 0), ("run", 0, 2)], [("idle",)]])
        runtime = run(one(receive=4), [[], [], arrive(0, 1, 2)])
        self.assertIs(runtime.lines.is_pending(0), True)
        runtime.step([])
        self.assertIs(runtime.lines.is_pending(0), False)

    def test_a_mark_that_is_left_keeps_it_pending(self):
        config = one(queue=1, receive=4, wait=32)
        runtime = run(config, [[], [], arrive(0, 1, 2)])
        self.assertEqual([runtime.devices[0].incoming.contents(), runtime.lines.is_pending(0)], [[("lost", 1)], True])
        runtime.step([])
        self.assertEqual(runtime.events[-1], ("run", 3, 0, ("lost", 1)))
        self.assertIs(runtime.lines.is_pending(0), False)

    def test_a_line_that_cannot_make_a_step_stays_pending(self):
        config = one(slots=1, size=1, receive=8, room=16, jobs=1, period=16)
        runtime = run(config, [arrive(0, 1, 2)] + [[]] * 8)
        self.assertEqual([runtime.lines.is_pending(0), runtime.devices[0].incoming.contents()], [True, [2]])
        self.assertEqual(runtime.events[-1], ("idle", 8))


class TransmitLineTest(unittest.TestCase):
    def test_it_becomes_pending_with_a_filled_slot(self):
        rows = ticks_of(one(transmit=3), [[], [], [("write", 0, [1, 2])]], 4)
        self.assertEqual(rows[2:], [[("written", 0, [1, 2]), ("staged", 0, 2)], [("pending", 1), ("run", 1, 1)],
                                    [("sent", 0, 1), ("run", 1, 2)], [("sent", 0, 2), ("idle",)], [("idle",)]])

    def test_it_stays_pending_until_the_ring_has_no_filled_slot(self):
        config = one(transmit=8, size=2, slots=2, period=24)
        runtime = run(config, [[("write", 0, [1, 2, 3])]])
        found = []
        for _ in range(6):
            runtime.step([])
            found.append((runtime.events[-1][0], len(runtime.devices[0].transmit_ring.filled_slots()),
                          runtime.lines.is_pending(1)))
        # The second slot is staged behind the handler, which runs first, and behind a refill, whose turn it is.
        self.assertEqual(found, [("staged", 1, False), ("run", 1, True), ("run", 0, False), ("armed", 0, False),
                                 ("staged", 1, False), ("run", 0, False)])

    def test_several_slots_and_one_pending_event(self):
        config = one(transmit=8, size=2, slots=4, period=24)
        schedule = [[("mask", 1), ("write", 0, [1, 2, 3, 4])]] + [[]] * 5 + [[("unmask", 1)]] + [[]] * 4
        runtime = run(config, schedule)
        self.assertEqual([event[1:] for event in runtime.events if event[0] == "pending"], [(2, 1)])
        self.assertEqual([event[1:] for event in runtime.events if event[0] == "run"],
                         [(6, 1, 1), (7, 1, 2), (8, 1, 3), (9, 1, 4)])

    def test_it_waits_for_space_in_the_queue_and_stays_pending(self):
        config = one(transmit=8, size=4, sending=1, pace=16, period=32)
        runtime = run(config, [[("write", 0, [1, 2, 3])]] + [[]] * 10)
        self.assertEqual([runtime.lines.is_pending(1), runtime.events[-1]], [True, ("idle", 10)])
        for _ in range(6):
            runtime.step([])
        self.assertEqual(runtime.events[-2:], [("sent", 16, 0, 1), ("run", 16, 1, 2)])


class MaskTest(unittest.TestCase):
    def test_masked_lines_become_pending_all_the_same(self):
        schedule = [[("mask", 0), ("mask", 1), ("write", 0, [9])] + arrive(0, 1)]
        runtime = run(one(), schedule + [[]] * 5)
        self.assertEqual([event[1:] for event in runtime.events if event[0] == "pending"], [(0, 0), (2, 1)])
        self.assertEqual([runtime.lines.is_pending(0), runtime.lines.is_pending(1)], [True, True])
        self.assertEqual([event for event in runtime.events if event[0] == "run"], [])

    def test_a_masked_line_runs_when_it_is_unmasked(self):
        rows = ticks_of(one(), [[("mask", 0)] + arrive(0, 1), [], [], [], [("unmask", 0)]], 1)
        self.assertEqual(rows[4:], [[("unmask", 0), ("run", 0, 1)], [("idle",)]])

    def test_a_line_that_is_masked_in_the_same_tick_does_not_run(self):
        rows = ticks_of(one(), [[], [], arrive(0, 1) + [("mask", 0)], [("unmask", 0), ("mask", 0)], [("unmask", 0)]])
        self.assertEqual([row[-1] for row in rows[2:]], [("idle",), ("idle",), ("run", 0, 1)])

    def test_a_masked_line_does_not_stop_the_others(self):
        schedule = [[], [], [], [], [("mask", 0)] + arrive(0, 1) + arrive(1, 2)]
        self.assertEqual(ticks_of(several(2), schedule)[4][-1], ("run", 2, 2))


class PriorityTest(unittest.TestCase):
    def ready(self, config):
        """A runtime in which every line could run in the next tick."""
        runtime = Runtime(config)
        for device in runtime.devices:
            device.receive_ring.arm(runtime.pool.acquire(device.receive_owner()))
            device.transmit_ring.arm(runtime.pool.acquire(device.transmit_owner()))
            device.transmit_ring.add(100 + device.index)
            device.transmit_ring.close(0)
        return runtime

    def test_the_lowest_line_runs_first(self):
        runtime = self.ready(several(3, buffers=6, jobs=1))
        runtime.step(arrive(2, 12) + arrive(1, 11) + arrive(0, 10))
        for _ in range(5):
            runtime.step([])
        self.assertEqual([event[1:] for event in runtime.events if event[0] == "run"],
                         [(0, 0, 10), (1, 1, 100), (2, 2, 11), (3, 3, 101), (4, 4, 12), (5, 5, 102)])

    def test_a_line_without_budget_or_masked_or_that_cannot_is_passed_over(self):
        for hindrance in ("budget", "mask", "space"):
            runtime = self.ready(several(2, buffers=4, jobs=1))
            runtime.step([])
            # Tick 0 was a step of line 1; a second slot is filled for it.
            ring = runtime.devices[0].transmit_ring
            ring.arm(runtime.pool.acquire(1))
            ring.add(55)
            ring.close(0)
            if hindrance == "space":
                runtime.budgets.refill()
                for byte in range(4):
                    runtime.devices[0].outgoing.put(byte)
                runtime.devices[0].settings.pace = 16
            if hindrance == "mask":
                runtime.budgets.refill()
            runtime.step([("mask", 1)] if hindrance == "mask" else [])
            self.assertEqual(runtime.events[-1], ("run", 1, 3, 101), hindrance)

    def test_a_line_comes_before_every_job(self):
        runtime = self.ready(several(1, buffers=4, slots=9))
        runtime.step(arrive(0, 1))
        runtime.step([])
        self.assertEqual([event[:3] for event in runtime.events if event[0] == "run"], [("run", 0, 0), ("run", 1, 1)])
        self.assertEqual(runtime.turn, 0)

    def test_a_step_uses_one_tick_of_its_budget(self):
        config = several(2, buffers=8, receive=3, transmit=2, jobs=5)
        runtime = self.ready(config)
        runtime.step(arrive(0, 1) + arrive(1, 2))
        left = [[runtime.budgets.left(which) for which in range(5)]]
        for _ in range(4):
            runtime.step([])
            left.append([runtime.budgets.left(which) for which in range(5)])
        self.assertEqual(left, [[2, 2, 3, 2, 5], [2, 1, 3, 2, 5], [2, 1, 2, 2, 5], [2, 1, 2, 1, 5], [2, 1, 2, 1, 4]])

    def test_an_idle_tick_uses_no_budget(self):
        runtime = run(one(slots=1), [[]] * 2)
        self.assertEqual([runtime.budgets.left(which) for which in range(3)], [1, 1, 3])
        self.assertEqual([runtime.events[-1], runtime.turn], [("idle", 1), 2])


class IdleSlotTest(unittest.TestCase):
    def closed(self, config, schedule, more):
        events = run(config, schedule + [[]] * more).events
        return [event[1:] for event in events if event[0] == "closed"]

    def test_an_idle_buffer_is_closed(self):
        for idle in (1, 2, 4, 32):
            # The byte of tick 3 is added to the slot in tick 3.
            found = self.closed(one(idle=idle), [[], [], [], arrive(0, 1)], 40)
            self.assertEqual(found, [(3 + idle, 0)])

    def test_a_later_byte_lets_the_buffer_wait(self):
        config = one(idle=4, receive=4)
        self.assertEqual(self.closed(config, [[], [], arrive(0, 1), [], [], arrive(0, 2)], 10), [(9, 0)])
        # In tick 6 the slot is closed before the byte of this tick is added to the next one.
        self.assertEqual(self.closed(config, [[], [], arrive(0, 1), [], [], [], arrive(0, 2)], 10), [(6, 0), (10, 0)])

    def test_a_full_buffer_is_not_closed_again(self):
        self.assertEqual(self.closed(one(size=1, idle=1), [arrive(0, 1)], 20), [])

    def test_a_closed_slot_can_be_delivered_in_the_same_tick(self):
        rows = ticks_of(one(idle=2, slots=1), [arrive(0, 1)], 5)
        self.assertEqual(rows[1:4], [[("run", 0, 1)], [("idle",)], [("closed", 0), ("delivered", 0, 1, 0)]])

    def test_a_masked_line_does_not_matter(self):
        self.assertEqual(self.closed(one(), [[], [], arrive(0, 1), [("mask", 0)]], 10), [(6, 0)])


class TurnTest(unittest.TestCase):
    def jobs(self, runtime, ticks):
        """The jobs of the next ticks, by device and name, and the turns behind them."""
        found = []
        for _ in range(ticks):
            runtime.step([])
            found.append((runtime.events[-1][0], runtime.events[-1][2], runtime.turn))
        return found

    def fill(self, runtime, d, data):
        device = runtime.devices[d]
        device.receive_ring.arm(runtime.pool.acquire(device.receive_owner()))
        for byte in data:
            device.receive_ring.add(byte)
        device.receive_ring.close(0)

    def test_the_jobs_of_several_devices_take_turns(self):
        runtime = Runtime(several(2, buffers=40, slots=16, room=64, jobs=30, period=64, size=1))
        for d in range(2):
            for byte in range(3):
                self.fill(runtime, d, [byte])
            runtime.devices[d].writing.write([1, 2, 3])
        for line in range(4):
            runtime.lines.mask(line)
        turns = [("delivered", 0, 1), ("armed", 0, 2), ("staged", 0, 3), ("delivered", 1, 4), ("armed", 1, 5),
                 ("staged", 1, 0)]
        self.assertEqual(self.jobs(runtime, 18), turns * 3)
        self.assertEqual(self.jobs(runtime, 3), [("armed", 0, 2), ("armed", 1, 5), ("armed", 0, 2)])

    def test_the_first_job_from_the_turn_on_in_cyclic_order(self):
        for turn in range(9):
            runtime = Runtime(several(3, buffers=6, slots=1))
            runtime.turn = turn
            for d in (0, 2):
                runtime.devices[d].receive_ring.arm(runtime.pool.acquire(2 * d))
            # Only the refill of device 1 is able to make a step.
            self.assertEqual(self.jobs(runtime, 1), [("armed", 1, 5)])

    def test_the_turn_goes_round_and_does_not_move_without_a_job(self):
        runtime = Runtime(several(2, buffers=4, slots=1))
        self.assertEqual(self.jobs(runtime, 2), [("armed", 0, 2), ("armed", 1, 5)])
        runtime.step([])
        self.assertEqual([runtime.events[-1], runtime.turn], [("idle", 2), 5])
        runtime.step([("write", 1, [1]), ("write", 0, [1])])
        self.assertEqual([runtime.events[-1], runtime.turn], [("staged", 3, 1, 1), 0])
        runtime.step([])
        self.assertEqual([runtime.events[-1], runtime.turn], [("run", 4, 3, 1), 0])
        runtime.step([])
        self.assertEqual([runtime.events[-1], runtime.turn], [("staged", 5, 0, 1), 3])

    def test_the_record_of_each_job(self):
        config = one(queue=2, size=2, receive=3, period=8)
        rows = ticks_of(config, [arrive(0, 1, 2, 3) + [("write", 0, [4, 5, 6])], [], [], []], 5)
        self.assertEqual([row[-1] for row in rows],
                         [("armed", 0, 0), ("run", 0, 1), ("run", 0, 2), ("staged", 0, 2), ("run", 1, 4),
                          ("delivered", 0, 2, 0), ("armed", 0, 2), ("run", 0, ("lost", 1)), ("run", 1, 5)])

    def test_buffers_are_kept_for_rings_without_one(self):
        runtime = Runtime(several(1, buffers=2, slots=4))
        self.assertEqual(self.jobs(runtime, 1), [("armed", 0, 2)])
        runtime.step([])
        self.assertEqual(runtime.events[-1], ("idle", 1))
        runtime.step([("write", 0, [1])])
        self.assertEqual(runtime.events[-1], ("staged", 2, 0, 1))


class OrderTest(unittest.TestCase):
    def test_the_events_of_one_tick_with_several_devices(self):
        config = several(2, buffers=8, idle=2, period=6, jobs=2)
        runtime = Runtime(config)
        for d, device in enumerate(runtime.devices):
            device.receive_ring.arm(runtime.pool.acquire(2 * d))
            device.receive_ring.add(50 + d)
            device.transmit_ring.arm(runtime.pool.acquire(2 * d + 1))
            device.transmit_ring.add(60 + d)
            device.transmit_ring.close(0)
            device.outgoing.put(70 + d)
            runtime.lines.mask(2 * d)
            runtime.lines.mask(2 * d + 1)
        runtime.tick = 6
        runtime.step([("read", 1, 3), ("arrive", 1, 9), ("write", 0, [8]), ("arrive", 0, 7)])
        self.assertEqual(runtime.events, [
            ("read", 6, 1, []), ("arrived", 6, 1, 9), ("written", 6, 0, [8]), ("arrived", 6, 0, 7),
            ("sent", 6, 0, 70), ("sent", 6, 1, 71), ("period", 6),
            ("closed", 6, 0), ("pending", 6, 0), ("pending", 6, 1),
            ("closed", 6, 1), ("pending", 6, 2), ("pending", 6, 3),
            ("delivered", 6, 0, 1, 0)])

    def test_a_tick_with_nothing_to_do(self):
        self.assertEqual(ticks_of(one(slots=1), [], 3)[1:], [[("idle",)], [("idle",)]])

    def test_a_whole_run_by_hand(self):
        config = Config(devices=[Settings(receive=2, transmit=2, slots=1)] * 2, buffers=4, size=4, period=13, jobs=4)
        schedule = [arrive(1, 21) + arrive(0, 11) + [("write", 1, [11, 12]), ("write", 0, [1, 2])]]
        self.assertEqual(ticks_of(config, schedule, 17), [
            [("arrived", 1, 21), ("arrived", 0, 11), ("written", 1, [11, 12]), ("written", 0, [1, 2]), ("period",),
             ("pending", 0), ("pending", 2), ("armed", 0, 0)],
            [("run", 0, 11)], [("staged", 0, 2)], [("pending", 1), ("run", 1, 1)], [("sent", 0, 1), ("run", 1, 2)],
            [("sent", 0, 2), ("closed", 0), ("armed", 1, 2)], [("run", 2, 21)], [("staged", 1, 2)],
            [("pending", 3), ("run", 3, 11)], [("sent", 1, 11), ("run", 3, 12)],
            [("sent", 1, 12), ("closed", 1), ("idle",)], [("idle",)], [("idle",)],
            [("period",), ("delivered", 0, 1, 0)], [("armed", 0, 1)], [("delivered", 1, 1, 0)], [("armed", 1, 3)],
            [("idle",)]])


class RunTest(unittest.TestCase):
    def test_the_example_of_the_document(self):
        config = Config(devices=[Settings()], buffers=2, size=1, period=4, jobs=2)
        runtime = run(config, [[("arrive", 0, 7)], [], [], [("read", 0, 9)]])
        self.assertEqual(runtime.events[:4], [("arrived", 0, 0, 7), ("period", 0), ("pending", 0, 0), ("armed", 0, 0, 0)])
        self.assertEqual(runtime.events[4:], [("run", 1, 0, 7), ("delivered", 2, 0, 1, 0), ("read", 3, 0, [7]),
                                              ("idle", 3)])

    def test_no_tick_at_all(self):
        config = one()
        runtime = run(config, [])
        self.assertIs(type(runtime), Runtime)
        self.assertIs(runtime.config, config)
        self.assertEqual([runtime.tick, runtime.events], [0, []])

    def test_run_and_a_runtime_that_makes_the_same_ticks(self):
        for seed in range(20):
            config = small_config(seed) if seed % 2 else some_config(seed)
            schedule = some_schedule(seed, len(config.devices), 120)
            runtime = Runtime(config)
            for commands in schedule:
                runtime.step(commands)
            found = run(config, schedule)
            self.assertEqual([found.events, found.tick, found.turn], [runtime.events, 120, runtime.turn])
            for device, other in zip(found.devices, runtime.devices):
                self.assertEqual([device.inbound(), device.outbound()], [other.inbound(), other.outbound()])

    def test_the_same_run_twice(self):
        config = small_config(3)
        schedule = some_schedule(3, len(config.devices), 100)
        self.assertEqual(run(config, schedule).events, run(config, schedule).events)

    def test_a_run_goes_on(self):
        config = small_config(4)
        schedule = some_schedule(4, len(config.devices), 100)
        runtime = run(config, schedule[:60])
        for commands in schedule[60:]:
            runtime.step(commands)
        self.assertEqual(runtime.events, run(config, schedule).events)


class SharingTest(unittest.TestCase):
    def test_the_arguments_are_not_changed(self):
        for seed in range(8):
            config = small_config(seed)
            schedule = some_schedule(seed, len(config.devices), 60)
            before, settings = copy.deepcopy(schedule), list(config.devices)
            run(config, schedule)
            self.assertEqual([schedule, config.devices], [before, settings])

    def test_lists_of_commands_that_change_afterwards(self):
        config = several(2)
        data, commands = [1, 2, 3], arrive(0, 9)
        commands.append(("write", 1, data))
        schedule = [commands, []]
        runtime = run(config, schedule)
        events = copy.deepcopy(runtime.events)
        data[0] = 99
        data.append(4)
        commands.clear()
        schedule.clear()
        self.assertEqual(runtime.events, events)
        self.assertEqual([runtime.devices[1].outbound(), runtime.devices[0].inbound()], [[1, 2, 3], [9]])

    def test_the_same_list_of_bytes_in_several_commands(self):
        data = [5, 6]
        runtime = run(several(2), [[("write", 0, data), ("write", 1, data), ("write", 0, data)]])
        data.pop()
        self.assertEqual([device.outbound() for device in runtime.devices], [[5, 6, 5, 6], [5, 6]])
        runtime.events[0][3].append(7)
        self.assertEqual([event[3] for event in runtime.events[:3]], [[5, 6, 7], [5, 6], [5, 6]])
        self.assertEqual([device.outbound() for device in runtime.devices], [[5, 6, 5, 6], [5, 6]])
        self.assertEqual(data, [5])

    def test_the_lists_of_the_record_are_not_those_of_the_state(self):
        for commands in ([("write", 0, [1, 2])], [("write", 0, [1, 2]), ("read", 0, 5)]):
            runtime = run(one(), [commands])
            wanted = [runtime.devices[0].inbound(), runtime.devices[0].outbound()]
            for event in runtime.events:
                if isinstance(event[-1], list):
                    event[-1].append(77)
            self.assertEqual([runtime.devices[0].inbound(), runtime.devices[0].outbound()], wanted)
        runtime = run(one(size=1), [arrive(0, 7, 8, 9)] + [[]] * 8)
        self.assertEqual(runtime.devices[0].inbound(), [7, 8, 9])
        runtime.step([("read", 0, 1)])
        runtime.events[-2][3].clear()
        self.assertEqual(runtime.devices[0].inbound(), [8, 9])

    def test_two_runtimes_of_one_configuration(self):
        config = small_config(2)
        many = len(config.devices)
        schedules = [some_schedule(seed, many, 80) for seed in (1, 2)]
        alone = [run(config, schedule).events for schedule in schedules]
        first, second = Runtime(config), Runtime(config)
        for commands, others in zip(*schedules):
            first.step(commands)
            second.step(others)
        self.assertEqual([first.events, second.events], alone)

    def test_two_runtimes_of_two_configurations(self):
        first, second = Runtime(one()), Runtime(one())
        first.step(arrive(0, 1) + [("mask", 1), ("write", 0, [2])])
        self.assertEqual([second.tick, second.events, second.pool.free(), second.turn], [0, [], 8, 0])
        self.assertEqual([second.devices[0].inbound(), second.devices[0].outbound()], [[], []])
        self.assertEqual([second.lines.is_masked(1), second.lines.is_pending(0)], [False, False])


if __name__ == "__main__":
    unittest.main()
