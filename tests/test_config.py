"""Settings and configurations: points 0.2, 0.3, 1.1 and 1.2."""

import unittest

from tickrings import config
from tickrings.config import Config, Settings
from tickrings.errors import ConfigError, TickringsError

# Name, least and greatest value; "count" stands for the default queue of 4.
RANGES = [
    ("queue", 1, 16), ("sending", 1, 16), ("slots", 1, 32), ("pace", 1, 16), ("count", 1, 4),
    ("wait", 1, 32), ("idle", 1, 32), ("room", 16, 64), ("receive", 1, None), ("transmit", 1, None),
]
DEFAULTS = {
    "queue": 4, "sending": 4, "slots": 2, "pace": 1, "count_limit": 1,
    "wait": 1, "idle": 4, "room": 16, "receive": 1, "transmit": 1,
}


def field_of(name):
    return "count_limit" if name == "count" else name


def bad_values(least, most):
    values = [least - 1, least - 100]
    return values if most is None else values + [most + 1, most + 100]


class ConfigCase(unittest.TestCase):
    def refused(self, name, make, **given):
        with self.assertRaises(ConfigError, msg=given) as held:
            make(**given)
        self.assertEqual(held.exception.setting, name, given)


class SettingsTest(ConfigCase):
    def test_what_is_left_out_has_the_default(self):
        self.assertEqual(vars(Settings()), DEFAULTS)

    def test_the_ends_of_every_range_are_accepted(self):
        for name, least, most in RANGES:
            for value in (least, 1000000 if most is None else most):
                settings = Settings(**{name: value})
                self.assertEqual(vars(settings), {**DEFAULTS, field_of(name): value})

    def test_what_is_below_or_above_a_range_is_refused(self):
        for name, least, most in RANGES:
            for value in bad_values(least, most):
                self.refused(name, Settings, **{name: value})

    def test_every_setting_goes_to_its_own_field(self):
        given = {"queue": 16, "sending": 15, "slots": 14, "pace": 13, "count": 12,
                 "wait": 11, "idle": 10, "room": 19, "receive": 8, "transmit": 7}
        wanted = {field_of(name): value for name, value in given.items()}
        self.assertEqual(vars(Settings(**given)), wanted)

    def test_count_goes_up_to_queue(self):
        for queue in range(1, 17):
            for count in range(-1, 19):
                if 1 <= count <= queue:
                    self.assertEqual(Settings(queue=queue, count=count).count_limit, count)
                else:
                    self.refused("count", Settings, queue=queue, count=count)

    def test_count_is_not_a_field(self):
        self.assertFalse(hasattr(Settings(), "count"))

    def test_the_first_of_two_settings_out_of_range_is_named(self):
        for at, (first, *ends) in enumerate(RANGES):
            for second, *others in RANGES[at + 1:]:
                for value in bad_values(*ends):
                    for other in bad_values(*others):
                        self.refused(first, Settings, **{second: other, first: value})

    def test_each_setting_is_named_when_all_behind_it_are_out_of_range_too(self):
        for at, (first, _, _) in enumerate(RANGES):
            self.refused(first, Settings, **{name: least - 1 for name, least, _ in RANGES[at:]})

    def test_an_unfit_queue_is_named_before_a_count_above_it(self):
        self.refused("queue", Settings, queue=17, count=17)
        self.refused("queue", Settings, queue=0, count=1)
        self.refused("wait", Settings, queue=16, count=16, wait=33)

    def test_the_settings_are_given_by_keyword_only(self):
        with self.assertRaises(TypeError):
            Settings(4)

    def test_objects_do_not_share_their_fields(self):
        first = Settings(queue=9)
        Settings(queue=3)
        self.assertEqual(first.queue, 9)

    def test_the_examples_of_the_document(self):
        with self.assertRaises(ConfigError) as held:
            Settings(queue=2, count=3)
        self.assertEqual(held.exception.setting, "count")
        self.assertIsInstance(held.exception, TickringsError)


class ConfigTest(ConfigCase):
    # Out of range in the order of the interface; the sum of the budgets is last.
    WRONG = [("devices", []), ("buffers", 0), ("size", 0), ("period", 0), ("jobs", 0)]

    def made(self, many, **given):
        return Config(devices=[Settings() for _ in range(many)], **given)

    def test_what_is_left_out_has_the_default(self):
        devices = [Settings()]
        wanted = {"devices": devices, "buffers": 8, "size": 4, "period": 16, "jobs": 4}
        self.assertEqual(vars(Config(devices=devices)), wanted)

    def test_every_setting_goes_to_its_own_field(self):
        devices = [Settings(receive=2), Settings(transmit=3)]
        given = {"devices": devices, "buffers": 40, "size": 5, "period": 60, "jobs": 7}
        self.assertEqual(vars(Config(**given)), given)

    def test_one_to_four_devices_are_accepted(self):
        for many in range(1, 5):
            self.assertEqual(len(self.made(many).devices), many)

    def test_other_numbers_of_devices_are_refused(self):
        self.refused("devices", Config, devices=[])
        for many in (5, 6):
            self.refused("devices", Config, devices=[Settings()] * many, buffers=256, period=64)

    def test_the_devices_keep_their_order(self):
        devices = [Settings(queue=queue) for queue in (3, 1, 2)]
        self.assertEqual([each.queue for each in Config(devices=devices).devices], [3, 1, 2])

    def test_the_list_of_devices_is_not_the_one_of_the_caller(self):
        first, second = Settings(), Settings(queue=9)
        devices = [first, second]
        made = Config(devices=devices)
        devices.pop()
        self.assertEqual(made.devices, [first, second])
        made.devices.append(first)
        self.assertEqual(devices, [first])

    def test_there_are_at_least_twice_as_many_buffers_as_devices(self):
        for many in range(1, 5):
            devices = [Settings()] * many
            self.assertEqual(self.made(many, buffers=2 * many).buffers, 2 * many)
            for buffers in (2 * many - 1, many, 0, -1):
                self.refused("buffers", Config, devices=devices, buffers=buffers)

    def test_there_are_at_most_256_buffers(self):
        for many in range(1, 5):
            self.assertEqual(self.made(many, buffers=256).buffers, 256)
            self.refused("buffers", Config, devices=[Settings()] * many, buffers=257)

    def test_the_size_is_1_to_16(self):
        for size in (1, 16):
            self.assertEqual(self.made(1, size=size).size, size)
        for size in (0, -1, 17, 100):
            self.refused("size", Config, devices=[Settings()], size=size)

    def test_the_period_is_1_to_64(self):
        for period in (0, -1, 65, 100):
            self.refused("period", Config, devices=[Settings()], period=period)
        self.assertEqual(self.made(1, period=64).period, 64)
        # No sum of budgets is below 3, so a short period fails only at the last check.
        for period in (1, 2):
            self.refused("budgets", Config, devices=[Settings()], period=period, jobs=1)
        self.assertEqual(self.made(1, period=3, jobs=1).period, 3)

    def test_the_job_budget_is_at_least_1(self):
        self.assertEqual(self.made(1, jobs=1).jobs, 1)
        for jobs in (0, -1):
            self.refused("jobs", Config, devices=[Settings()], jobs=jobs)

    def test_a_budget_below_1_does_not_make_room_for_others(self):
        self.refused("jobs", Config, devices=[Settings(receive=100)], jobs=-100)

    def test_the_sum_of_the_budgets_is_at_most_the_period(self):
        rows = [(1, 1, 1), (5, 1, 1), (1, 5, 1), (1, 1, 5), (2, 3, 4), (1, 1, 14)]
        for receive, transmit, jobs in rows:
            for many in range(1, 5):
                devices = [Settings(receive=receive, transmit=transmit)] + [Settings()] * (many - 1)
                total = receive + transmit + 2 * (many - 1) + jobs
                made = Config(devices=devices, period=total, jobs=jobs)
                self.assertEqual([made.period, made.jobs], [total, jobs])
                self.refused("budgets", Config, devices=devices, period=total - 1, jobs=jobs)

    def test_every_budget_of_every_device_counts(self):
        for at in range(4):
            for name in ("receive", "transmit"):
                devices = [Settings() for _ in range(4)]
                devices[at] = Settings(**{name: 53})
                self.assertEqual(Config(devices=devices, period=64).period, 64)
                devices[at] = Settings(**{name: 54})
                self.refused("budgets", Config, devices=devices, period=64)

    def test_a_single_budget_has_no_bound_but_the_sum(self):
        self.assertEqual(self.made(1, jobs=62, period=64).jobs, 62)
        self.refused("budgets", Config, devices=[Settings()], jobs=63, period=64)
        self.refused("budgets", Config, devices=[Settings()], jobs=1000000)
        self.refused("budgets", Config, devices=[Settings(receive=1000000)])

    def test_the_first_setting_out_of_range_is_named(self):
        for at in range(len(self.WRONG)):
            given = {"devices": [Settings(receive=100)], **dict(self.WRONG[at:])}
            self.refused(self.WRONG[at][0], Config, **given)

    def test_the_first_of_two_settings_out_of_range_is_named(self):
        wrong = [("devices", [Settings()] * 5), ("buffers", 257), ("size", 17), ("period", 65), ("jobs", 0)]
        for rows in (self.WRONG, wrong):
            for at, (first, value) in enumerate(rows):
                for second, other in rows[at + 1:]:
                    given = {"devices": [Settings()], first: value, second: other}
                    self.refused(first, Config, **given)

    def test_the_sum_is_checked_last(self):
        devices = [Settings(receive=100)]
        for name, value in [("buffers", 1), ("size", 17), ("period", 65), ("jobs", 0)]:
            self.refused(name, Config, **{"devices": devices, name: value})
        self.refused("budgets", Config, devices=devices)

    def test_the_settings_are_given_by_keyword_only(self):
        with self.assertRaises(TypeError):
            Config([Settings()])
        with self.assertRaises(TypeError):
            Config()

    def test_a_refusal_changes_no_argument(self):
        devices = [Settings(receive=100)]
        self.refused("budgets", Config, devices=devices)
        self.assertEqual([each.receive for each in devices], [100])

    def test_the_example_of_the_document(self):
        made = Config(devices=[Settings(queue=2, count=2), Settings()], period=8)
        self.assertEqual(made.period, 8)

    def test_the_classes_are_defined_in_their_file(self):
        for made in (config.Settings, config.Config):
            self.assertEqual(made.__module__, "tickrings.config")


if __name__ == "__main__":
    unittest.main()
