"""What holds in every run: points 0.8, 0.9 and 0.10, over longer runs of many kinds."""

import random
import unittest

from runs import HABITS, some_config, some_schedule, small_config, watched
from tickrings.config import Config, Settings

COMMANDS = ("arrived", "lost", "mask", "unmask", "read", "written")
STEPS = ("run", "delivered", "armed", "staged", "idle")


def place_of(event, many):
    """The place of an event within its tick, by the order of point 0.9."""
    name = event[0]
    if name in COMMANDS:
        return (1,)
    if name == "sent":
        return (2, event[2])
    if name == "period":
        return (3,)
    if name == "closed":
        return (4, event[2], 0)
    if name == "pending":
        return (4, event[2] // 2, 1 + event[2] % 2)
    return (5,)


class InvariantsTest(unittest.TestCase):
    def check(self, config, schedule):
        watch = watched(self, config, schedule)
        self.check_order(config, watch.runtime.events, len(schedule))
        return watch

    def check_order(self, config, events, ticks):
        rows = [[] for _ in range(ticks)]
        for event in events:
            rows[event[1]].append(event)
        self.assertEqual([event for row in rows for event in row], events)
        for row in rows:
            places = [place_of(event, len(config.devices)) for event in row]
            self.assertEqual(places, sorted(places))
            behind = [place for place in places if place != (1,)]
            self.assertEqual(len(set(behind)), len(behind))
            self.assertEqual([event[0] in STEPS for event in row], [False] * (len(row) - 1) + [True])

    def test_runs_with_every_habit_and_small_settings(self):
        for habit in HABITS:
            for seed in range(25):
                config = small_config(seed)
                self.check(config, some_schedule(seed, len(config.devices), 150, habit))

    def test_runs_with_settings_of_all_sizes(self):
        for seed in range(60):
            config = some_config(seed)
            self.check(config, some_schedule(seed + 1000, len(config.devices), 200))

    def test_the_runs_meet_every_kind_of_event_and_every_limit(self):
        names, limits = set(), set()
        for habit in HABITS:
            for seed in range(10):
                config = small_config(seed)
                watch = watched(self, config, some_schedule(seed, len(config.devices), 150, habit))
                names |= {event[0] for event in watch.runtime.events}
                for device in watch.runtime.devices:
                    limits |= self.limits_met(device, watch.runtime.pool)
        self.assertEqual(names, {"arrived", "lost", "mask", "unmask", "read", "written", "sent", "period", "closed",
                                 "pending", "run", "delivered", "armed", "staged", "idle"})
        self.assertEqual(limits, {"queue", "sending", "receive ring", "transmit ring", "writing", "pool", "marks"})

    def limits_met(self, device, pool):
        found = {
            "queue": device.incoming.bytes_held() == device.settings.queue,
            "sending": device.outgoing.space() == 0,
            "receive ring": not device.receive_ring.can_arm(),
            "transmit ring": not device.transmit_ring.can_arm(),
            "writing": device.writing.held() == device.settings.room,
            "pool": pool.free() == 0,
            "marks": any(slot[2] for slot in device.receive_ring.filled_slots()),
        }
        return {name for name, met in found.items() if met}

    def test_a_reader_that_never_comes(self):
        settings = Settings(queue=2, slots=3, receive=2, room=16)
        config = Config(devices=[settings], buffers=4, size=3, period=8, jobs=4)
        watch = self.check(config, [[("arrive", 0, tick % 256)] for tick in range(300)])
        device = watch.runtime.devices[0]
        self.assertEqual([device.reading.space() < 3, device.incoming.bytes_held()], [True, 2])
        self.assertEqual(len(device.receive_ring.filled_slots()), 3)
        self.assertGreater(device.incoming.contents()[-1][1], 100)

    def test_a_sender_that_is_too_slow(self):
        settings = Settings(sending=2, slots=2, pace=16, transmit=2)
        config = Config(devices=[settings, settings], buffers=5, size=2, period=16, jobs=6)
        schedule = [[("write", tick % 2, [tick % 256] * 3)] for tick in range(300)]
        watch = self.check(config, schedule)
        for sent in watch.sent:
            self.assertIn(len(sent), (17, 18))

    def test_buffers_that_are_just_enough(self):
        for many in (1, 2, 3, 4):
            settings = Settings(slots=4, queue=8, receive=3, transmit=3)
            config = Config(devices=[settings] * many, buffers=2 * many, size=2, period=40, jobs=16)
            watch = self.check(config, some_schedule(7, many, 400, HABITS[1]))
            for device in watch.runtime.devices:
                self.assertEqual(len(device.receive_ring.buffers()), 1)

    def test_lines_that_stay_masked(self):
        settings = Settings()
        config = Config(devices=[settings, settings], buffers=8, size=4, period=16, jobs=4)
        schedule = [[("mask", 0), ("mask", 3)]] + some_schedule(3, 2, 200, HABITS[0])
        watch = self.check(config, schedule)
        ran = {event[2] for event in watch.runtime.events if event[0] == "run"}
        self.assertEqual(ran, {1, 2})
        self.assertEqual(watch.runtime.lines.candidates(), sorted(watch.pending - {0, 3}))

    def test_one_byte_at_a_time(self):
        settings = Settings(queue=1, sending=1, slots=1, idle=1)
        config = Config(devices=[settings], buffers=2, size=1, period=3, jobs=1)
        source = random.Random(5)
        schedule = []
        for _ in range(400):
            commands = [("arrive", 0, source.randrange(256)), ("write", 0, [source.randrange(256)]), ("read", 0, 1)]
            schedule.append([command for command in commands if source.random() < 0.4])
        watch = self.check(config, schedule)
        self.assertTrue(watch.taken[0])
        self.assertTrue(watch.sent[0])


if __name__ == "__main__":
    unittest.main()
