"""Rates without losses: points 0.12 and 18.1 to 18.5."""

import random
import unittest

from tickrings.config import Config, Settings
from tickrings.rates import admits, latency, warm_up
from tickrings.runtime import Runtime


def one(buffers=None, size=4, period=60, jobs=12, **settings):
    """A configuration with one device and with as many buffers as slots."""
    device = Settings(**settings)
    return Config(devices=[device], buffers=2 * device.slots if buffers is None else buffers, size=size, period=period,
                  jobs=jobs)


class AdmitsTest(unittest.TestCase):
    def check(self, config, rates, wanted):
        self.assertIs(admits(config, rates), wanted, rates)

    def test_the_example_of_the_document(self):
        config = Config(devices=[Settings(slots=7, idle=2)], buffers=14, size=3, period=20, jobs=12)
        self.assertEqual([admits(config, [1]), admits(config, [2]), warm_up(config), latency(config, 0)],
                         [True, False, 2, 86])

    def test_as_many_buffers_as_slots(self):
        for buffers, wanted in ((13, False), (14, True), (15, True)):
            self.check(one(slots=7, buffers=buffers), [1], wanted)
            self.check(one(slots=7, buffers=buffers), [0], wanted)
        devices = [Settings(slots=7), Settings(slots=3)]
        for buffers, wanted in ((19, False), (20, True), (21, True)):
            config = Config(devices=devices, buffers=buffers, period=64, jobs=24)
            for rates in ([0, 0], [1, 0]):
                self.check(config, rates, wanted)

    def test_count_is_1(self):
        for count in (1, 2, 4):
            self.check(one(slots=7, count=count), [1], count == 1)
            self.check(one(slots=7, count=count), [0], True)

    def test_the_receive_budget(self):
        # The closings are 3 for both rates: only the budget is missed.
        config = one(receive=2, queue=16, slots=10, jobs=18)
        for rate, wanted in ((1, True), (2, True), (3, False), (8, False)):
            self.check(config, [rate], wanted)

    def test_the_queue(self):
        for rate in (1, 2, 5):
            for queue in (2 * rate - 1, 2 * rate, 2 * rate + 1):
                config = one(receive=rate, queue=queue, slots=32, jobs=36)
                self.check(config, [rate], queue >= 2 * rate)

    def test_the_slots(self):
        for receive, rate, closings in ((1, 1, 2), (2, 1, 3), (8, 1, 3), (2, 2, 3), (3, 2, 4), (8, 2, 5)):
            for slots in (3 * closings - 1, 3 * closings, 3 * closings + 1, 3 * closings + 2):
                config = one(receive=receive, queue=4, slots=slots, jobs=36)
                self.check(config, [rate], slots > 3 * closings)

    def test_the_job_share(self):
        for receive, rate, closings in ((1, 1, 2), (9, 1, 3), (3, 2, 4)):
            for jobs in (6 * closings - 1, 6 * closings, 6 * closings + 1):
                config = one(receive=receive, queue=4, slots=20, jobs=jobs)
                self.check(config, [rate], jobs >= 6 * closings)

    def test_the_job_share_of_several_devices(self):
        for many in (2, 3, 4):
            for jobs in (12 * many - 1, 12 * many):
                config = Config(devices=[Settings(slots=7)] * many, buffers=14 * many, period=64, jobs=jobs)
                for d in range(many):
                    self.check(config, [int(d == other) for other in range(many)], jobs == 12 * many)

    def test_rate_0(self):
        self.check(one(slots=1, buffers=2, queue=1, jobs=1), [0], True)
        self.check(one(slots=1, buffers=2, queue=1, jobs=1), [1], False)
        self.check(one(slots=1, buffers=2, queue=3, count=3, jobs=12), [0], True)

    def test_a_job_share_of_0(self):
        config = one(slots=7, jobs=2)
        self.check(config, [0], True)
        self.check(config, [1], False)
        self.assertEqual(warm_up(config), 0)

    def test_each_device_has_its_own_rate(self):
        devices = [Settings(slots=7), Settings(slots=7, count=2), Settings(slots=6)]
        config = Config(devices=devices, buffers=40, period=64, jobs=36)
        for rates, wanted in (([1, 0, 0], True), ([0, 1, 0], False), ([0, 0, 1], False), ([1, 1, 0], False),
                              ([1, 0, 1], False), ([2, 0, 0], False), ([0, 0, 0], True)):
            self.check(config, rates, wanted)

    def test_the_greatest_rates(self):
        config = one(queue=16, receive=16, slots=32, jobs=40, period=60)
        self.check(config, [16], False)
        self.check(one(queue=16, receive=8, slots=28, jobs=52, period=64), [8], False)
        self.check(one(queue=16, receive=7, slots=25, jobs=48, period=64), [7], True)

    def test_the_rates_do_not_change(self):
        rates = [1, 0]
        config = Config(devices=[Settings(slots=7)] * 2, buffers=28, period=64, jobs=24)
        found = [admits(config, rates), admits(config, rates), rates]
        self.assertEqual(found, [True, True, [1, 0]])


class TimesTest(unittest.TestCase):
    def test_the_warm_up(self):
        for slots, jobs, wanted in ((1, 3, 1), (7, 12, 2), (8, 12, 2), (9, 12, 3), (9, 14, 3), (9, 15, 2), (32, 3, 32),
                                    (32, 60, 2), (4, 13, 1), (4, 12, 1), (5, 12, 2), (32, 2, 0), (32, 1, 0)):
            self.assertEqual(warm_up(one(slots=slots, jobs=jobs, period=64)), wanted, (slots, jobs))

    def test_the_warm_up_of_several_devices(self):
        for slots in ((9, 2), (2, 9), (9, 9)):
            devices = [Settings(slots=each) for each in slots]
            for jobs, wanted in ((5, 0), (6, 9), (11, 9), (12, 5), (18, 3), (24, 3), (30, 2), (53, 2), (54, 1)):
                self.assertEqual(warm_up(Config(devices=devices, period=64, jobs=jobs)), wanted, jobs)

    def test_the_latency(self):
        devices = [Settings(idle=2), Settings(idle=32), Settings(idle=1)]
        config = Config(devices=devices, size=5, period=11)
        self.assertEqual([latency(config, at) for at in range(3)], [54, 204, 49])
        self.assertEqual(latency(Config(devices=[Settings()]), 0), 80)
        self.assertEqual(latency(Config(devices=[Settings(idle=32)], size=16, period=64), 0), 768)


def admitted(seed):
    """A configuration and rates that it just admits, or nearly just."""
    source = random.Random(seed)
    many = source.randint(1, 4)
    rates = [source.choice([0, 1, 1, 2, 3]) for _ in range(many)]
    devices, closings = [], []
    for rate in rates:
        receive = max(1, rate + source.choice([0, 0, 1]))
        closings.append(min(receive, 2 * rate) + 1 if rate else 0)
        devices.append(Settings(
            queue=max(1, 2 * rate + source.choice([0, 0, 3])), slots=3 * closings[-1] + 1 + source.choice([0, 0, 4]),
            wait=source.choice([1, 32]), idle=source.choice([1, 3, 32]), room=source.choice([16, 64]), receive=receive,
            transmit=source.choice([1, 3]), pace=source.choice([1, 16]), sending=source.choice([1, 8])))
    jobs = max(1, 6 * many * max(closings)) + source.choice([0, 1])
    used = jobs + sum(each.receive + each.transmit for each in devices)
    if used > 64:
        return admitted(seed + 100000)
    config = Config(devices=devices, buffers=sum(2 * each.slots for each in devices), size=source.choice([1, 2, 3, 16]),
                    period=min(64, used + source.choice([0, 0, 5])), jobs=jobs)
    return config, rates


class PromiseTest(unittest.TestCase):
    def arrivals(self, source, config, rates, habit):
        """The devices at which bytes arrive in the next period, a list for each of its ticks."""
        ticks = [[] for _ in range(config.period)]
        place = {"first": 0, "last": config.period - 1, "same": source.randrange(config.period)}
        for d, rate in enumerate(rates):
            for _ in range(rate):
                if habit == "some":
                    if source.random() < 0.5:
                        ticks[source.randrange(config.period)].append(d)
                else:
                    ticks[place.get(habit, source.randrange(config.period))].append(d)
        return ticks

    def check(self, seed):
        config, rates = admitted(seed)
        self.assertTrue(admits(config, rates))
        source = random.Random(seed)
        habit, writing = source.choice(["first", "last", "same", "any", "some", "ends"]), source.choice([0, 0.1, 1])
        runtime = Runtime(config)
        waiting = [[] for _ in rates]
        for period in range(warm_up(config) + 8):
            late = period < warm_up(config)
            now = ["first", "last"][(period + 1) % 2] if habit == "ends" else habit
            for devices in self.arrivals(source, config, [0] * len(rates) if late else rates, now):
                for d in devices:
                    waiting[d].append(runtime.tick)
                commands = [("read", d, 64) for d in range(len(rates))] + [("arrive", d, 7) for d in devices]
                commands += [("write", d, [1] * 9) for d in range(len(rates)) if source.random() < writing]
                source.shuffle(commands)
                self.step(runtime, commands, waiting, seed)

    def step(self, runtime, commands, waiting, seed):
        seen, tick = len(runtime.events), runtime.tick
        runtime.step(commands)
        for event in runtime.events[seen:]:
            self.assertNotEqual(event[0], "lost", seed)
            if event[0] == "read":
                del waiting[event[2]][:len(event[3])]
        for d, ticks in enumerate(waiting):
            if ticks:
                self.assertLess(tick, ticks[0] + latency(runtime.config, d), seed)

    def test_no_byte_is_lost_and_each_is_read_within_the_latency(self):
        for seed in range(60):
            self.check(seed)


if __name__ == "__main__":
    unittest.main()
