"""The step bound and the drain bound: points 0.11, 16.1 and 16.2."""

import random
import unittest

from runs import HABITS, some_config, some_schedule, small_config
from tickrings.bounds import drain_bound, steps_bound
from tickrings.config import Config, Settings
from tickrings.runtime import run


class NumbersTest(unittest.TestCase):
    def check(self, config, steps, drain):
        self.assertEqual([steps_bound(config), drain_bound(config)], [steps, drain])
        self.assertEqual([type(steps_bound(config)), type(drain_bound(config))], [int, int])

    def test_the_defaults(self):
        # i = 9, s = 11: 9 + 22 + 2 + 2 * 24; 1 + 4 + 29 + 16 * 83.
        self.check(Config(devices=[Settings()]), 81, 1362)

    def test_settings_that_are_all_different(self):
        other = Settings(queue=2, sending=3, slots=5, pace=7, count=2, wait=11, idle=13, room=17, receive=2, transmit=3)
        # i = 5, s = 10: 5 + 20 + 5 + 2 * 47; 11 + 13 + 7 * 51 + 19 * 126.
        self.check(Config(devices=[other], size=6, period=19), 124, 2775)
        # The device with the defaults adds 9 + 22 + 2 + 2 * 28 steps, and 1 + 4 + 33 ticks.
        for devices in ([Settings(), other], [other, Settings()]):
            self.check(Config(devices=devices, size=6, period=19, buffers=9), 213, 4504)

    def test_the_smallest_and_the_greatest_settings(self):
        small = Settings(queue=1, sending=1, slots=1, pace=1, count=1, wait=1, idle=1, room=16)
        # i = 3, s = 4: 3 + 8 + 1 + 2 * 17; 1 + 1 + 19 + 3 * 48.
        self.check(Config(devices=[small], buffers=2, size=1, period=3, jobs=1), 46, 165)
        great = Settings(queue=16, sending=16, slots=32, pace=16, count=16, wait=32, idle=32, room=64)
        # i = 33, s = 65: 33 + 130 + 32 + 2 * 576; 32 + 32 + 16 * 593 + 64 * (4 * 1347 + 2).
        self.check(Config(devices=[great] * 4, buffers=256, size=16, period=64), 5388, 383168)

    def test_each_setting_alone(self):
        changes = [({"queue": 5}, 6, 96), ({"sending": 5}, 0, 1), ({"slots": 3}, 11, 180), ({"pace": 2}, 0, 29),
                   ({"wait": 2}, 0, 1), ({"idle": 5}, 0, 1), ({"room": 17}, 2, 33), ({"receive": 2}, 0, 0),
                   ({"transmit": 2}, 0, 0), ({"queue": 4, "count": 2}, 0, 0)]
        for settings, steps, drain in changes:
            self.check(Config(devices=[Settings(**settings)]), 81 + steps, 1362 + drain)
        self.check(Config(devices=[Settings()], size=5), 85, 1362 + 2 + 64)
        self.check(Config(devices=[Settings()], period=17), 81, 1362 + 83)
        self.check(Config(devices=[Settings()], buffers=9, jobs=5), 81, 1362)


class DrainTest(unittest.TestCase):
    def check(self, config, schedule):
        """Let a run end with reads alone, and look when nothing is on the way any more."""
        runtime = run(config, schedule)
        many = len(config.devices)
        commands = [("unmask", line) for line in range(2 * many)]
        for _ in range(drain_bound(config)):
            runtime.step(commands + [("read", d, 64) for d in range(many)])
            commands = []
            if not any(device.inbound() or device.outbound() for device in runtime.devices):
                return
        self.fail("something is left on the way")

    def test_runs_with_small_settings(self):
        for habit in HABITS:
            for seed in range(12):
                config = small_config(seed)
                self.check(config, some_schedule(seed, len(config.devices), random.Random(seed).randint(0, 120), habit))

    def test_runs_with_settings_of_all_sizes(self):
        for seed in range(30):
            config = some_config(seed)
            self.check(config, some_schedule(seed, len(config.devices), random.Random(seed).randint(0, 120)))

    def test_everything_is_full(self):
        for seed in range(30):
            config = small_config(seed)
            devices = range(len(config.devices))
            tick = [("arrive", d, byte) for d in devices for byte in range(9)] + [("write", d, [7] * 64) for d in devices]
            self.check(config, [tick] * 60)

    def test_bytes_that_only_the_idle_time_moves(self):
        settings = Settings(queue=16, count=16, wait=32, idle=32, slots=4)
        config = Config(devices=[settings] * 2, size=16, period=12)
        self.check(config, [[("arrive", 0, 1), ("arrive", 1, 2)], [("arrive", 0, 3)]])

    def test_nothing_is_on_the_way(self):
        self.check(Config(devices=[Settings()]), [])


if __name__ == "__main__":
    unittest.main()
