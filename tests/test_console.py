"""The console: points 17.1 to 17.4."""

import unittest

from runs import some_schedule
from tickrings.config import Config, Settings
from tickrings.console import format_event, perform_script
from tickrings.errors import CommandError, TickringsError
from tickrings.runtime import Runtime, run


def script(*lines):
    return perform_script("\n".join(lines))


class ConsoleCase(unittest.TestCase):
    def refused(self, *lines, at=None):
        """Check that the last line, or the one with the number `at`, is refused."""
        with self.assertRaises(CommandError) as caught:
            script(*lines)
        self.assertEqual(caught.exception.line, len(lines) if at is None else at, lines)
        self.assertIsInstance(caught.exception, TickringsError)

    def each_refused(self, *words, before=("device", "device", "start")):
        for line in words:
            self.refused(*before, line)
            self.refused(*before, line, "log", "tick 1", at=len(before) + 1)

    def each_accepted(self, *words, before=("device", "device", "start")):
        for line in words:
            self.assertEqual(script(*before, line), [], line)


class FormatTest(unittest.TestCase):
    def test_every_kind_of_event(self):
        rows = [
            (("arrived", 0, 1, 255), "0 arrived 1 255"), (("lost", 12, 3, 0), "12 lost 3 0"),
            (("mask", 5, 7), "5 mask 7"), (("unmask", 6, 0), "6 unmask 0"),
            (("read", 3, 0, [7, ("lost", 2)]), "3 read 0 7,lost:2"), (("read", 3, 0, []), "3 read 0 -"),
            (("read", 3, 2, [("lost", 10)]), "3 read 2 lost:10"), (("read", 3, 2, [0]), "3 read 2 0"),
            (("written", 9, 1, [1, 20, 255]), "9 written 1 1,20,255"), (("written", 9, 1, []), "9 written 1 -"),
            (("sent", 4, 0, 8), "4 sent 0 8"), (("period", 16), "16 period"), (("closed", 8, 2), "8 closed 2"),
            (("pending", 1, 6), "1 pending 6"), (("run", 2, 4, 99), "2 run 4 99"),
            (("run", 2, 4, ("lost", 3)), "2 run 4 lost:3"), (("delivered", 5, 1, 4, 0), "5 delivered 1 4 0"),
            (("armed", 1000, 0, 255), "1000 armed 0 255"), (("staged", 7, 3, 16), "7 staged 3 16"), (("idle", 11), "11 idle")]
        for event, line in rows:
            self.assertEqual(format_event(event), line)

    def test_the_event_does_not_change(self):
        items = [1, ("lost", 2)]
        event = ("read", 0, 0, items)
        format_event(event)
        self.assertEqual([items, event], [[1, ("lost", 2)], ("read", 0, 0, [1, ("lost", 2)])])


class ExampleTest(ConsoleCase):
    def test_the_examples_of_the_document(self):
        found = perform_script("device\nstart size=1 period=4 jobs=2\narrive 0 7 8\ntick 1\nshow 0\nlog")
        self.assertEqual(found, ["device 0 in 7 8 out", "0 arrived 0 7", "0 arrived 0 8", "0 period", "0 pending 0",
                                 "0 armed 0 0"])
        self.refused("device", "device wait=0")

    def test_scripts_that_output_nothing(self):
        for text in ("", "\n", "\n\n\n", "   ", "# nothing", "device", "device\nstart", "device\nstart\ntick 3\n"):
            self.assertEqual(perform_script(text), [])


class LinesTest(ConsoleCase):
    def test_spaces_empty_lines_and_remarks(self):
        plain = script("device", "start size=1 period=4 jobs=2", "arrive 0 7 8", "tick 1", "show 0", "log")
        text = "\n  # first\ndevice  \n\n   start   size=1  period=4 jobs=2\n#tick 9\n # tick 9\n    \n" \
            "arrive   0 7    8 \n##\ntick 1\n   show 0\n\nlog   \n"
        self.assertEqual(perform_script(text), plain)

    def test_a_remark_stands_at_the_beginning_only(self):
        self.each_refused("tick 1 # one", "tick 1#", "log #", "show 0 #", "arrive 0 1 #2")
        self.assertEqual(script("#", "#device x", "  #start", "# start"), [])

    def test_the_number_of_the_line_behind_remarks_and_empty_lines(self):
        self.refused("what", at=1)
        self.refused("", "what", at=2)
        self.refused("# a", "", "   ", "device", "#b", "start", "", "  # c", "   what  ", "", "log", at=9)
        with self.assertRaises(CommandError) as caught:
            perform_script("\n\ndevice\nstart\n\ntick x\n")
        self.assertEqual(caught.exception.line, 6)

    def test_the_first_wrong_line_counts(self):
        self.refused("device", "start", "tick 1", "wrong", "wrong", "device", at=4)
        self.refused("device", "tick 1", "start", "wrong", at=2)

    def test_unknown_commands(self):
        words = ("what", "Tick 1", "TICK 1", "ticks 1", "tic 1", "arrived 0 1", "written 0 1", "sent 0 1", "0", "-", "=",
                 "stop", "help", "tick=1", "log=", "read0 1")
        self.each_refused(*words)
        for word in words:
            self.refused(word)
            self.refused("device", word)

    def test_the_order_of_the_output(self):
        found = script("device", "start", "show 0", "tick 1", "log", "show 0", "write 0 1 2", "tick 1", "show 0", "log")
        self.assertEqual(found, ["device 0 in out", "0 period", "0 armed 0 0", "device 0 in out", "device 0 in out 1 2",
                                 "1 written 0 1,2", "1 staged 0 2"])

    def test_scripts_do_not_share_anything(self):
        lines = ("device", "start", "arrive 0 1", "tick 2", "log")
        first = script(*lines)
        first.append("x")
        self.assertEqual(script(*lines), first[:-1])


class NumberTest(ConsoleCase):
    def test_words_that_are_no_numbers(self):
        for word in ("", "x", "1x", "x1", "+1", "-1", "--1", "1.0", "0x1", "1_0", "1e0", "01000", "00001", "10000",
                     "12345", ",", "1,2", "#"):
            lines = [f"tick {word}", f"arrive 0 {word}", f"arrive {word} 0", f"mask {word}", f"unmask {word}",
                     f"read 0 {word}", f"read {word} 0", f"write 0 {word}", f"write {word} 0", f"show {word}"]
            if word:
                lines += [f"arrive 0 1 {word}", f"write 0 1 {word} 1"]
            self.each_refused(*lines)
            self.refused("device", f"device queue={word}")
            self.refused("device", f"start size={word}")

    def test_numbers_of_one_to_four_digits(self):
        self.each_accepted("tick 0", "tick 00", "tick 0000", "tick 1", "tick 0001", "read 00 0064", "arrive 0001 0255",
                           "mask 0003", "write 01 007")
        self.assertEqual(script("device", "device", "start", "show 0001", "show 00"), ["device 1 in out", "device 0 in out"])
        self.assertEqual(script("device queue=0016 slots=01", "start size=0016 buffers=0256"), [])


class DeviceTest(ConsoleCase):
    def test_settings(self):
        line = "device queue=3 sending=5 slots=6 pace=7 count=2 wait=8 idle=9 room=20 receive=2 transmit=3"
        self.assertEqual(script(line, "start"), [])
        settings = Settings(queue=3, sending=5, slots=6, pace=7, count=2, wait=8, idle=9, room=20, receive=2, transmit=3)
        config = Config(devices=[settings], buffers=9, size=2, period=11, jobs=5)
        schedule = [[("arrive", 0, tick), ("arrive", 0, 99)] * (tick % 3) + [("write", 0, [tick] * 3)] for tick in range(60)]
        lines = [line, "start jobs=5 buffers=9 period=11 size=2"]
        for tick, commands in enumerate(schedule):
            lines += [f"arrive 0 {tick} 99"] * (tick % 3) + [f"write 0 {tick} {tick} {tick}", "tick 1"]
        self.assertEqual(script(*lines, "log"), [format_event(event) for event in run(config, schedule).events])

    def test_settings_that_are_not_named_have_their_defaults(self):
        for settings in ({}, {"queue": 2}, {"slots": 1, "idle": 2}, {"size": 1}):
            named = [f"{name}={number}" for name, number in settings.items()]
            device = {} if "size" in settings else settings
            config = Config(devices=[Settings(**device)], size=settings.get("size", 4))
            schedule = [[("arrive", 0, tick)] if tick % 3 else [("write", 0, [tick])] for tick in range(40)]
            lines = [f"arrive 0 {tick}\ntick 1" if tick % 3 else f"write 0 {tick}\ntick 1" for tick in range(40)]
            start = ["device", " ".join(["start"] + named)] if "size" in settings else [" ".join(["device"] + named), "start"]
            self.assertEqual(script(*start, *lines, "log"), [format_event(event) for event in run(config, schedule).events])

    def test_several_devices_keep_their_order(self):
        found = script("device queue=1", "device queue=2", "start", "arrive 0 1 2 3", "arrive 1 1 2 3", "tick 1", "log")
        self.assertEqual(found[:6], ["0 arrived 0 1", "0 lost 0 2", "0 lost 0 3", "0 arrived 1 1", "0 arrived 1 2",
                                     "0 lost 1 3"])

    def test_settings_that_do_not_exist(self):
        for line in ("device x=1", "device Queue=1", "device count_limit=1", "device buffers=8", "device size=4",
                     "device period=16", "device jobs=4", "device =1", "device queue", "device queue=", "device queue =1",
                     "device queue= 1", "device queue=1=1", "device queue==1", "device 1", "device devices=1",
                     "device line=1", "device =", "device queue:1"):
            self.refused(line)
            self.refused("device", line, "start", at=2)
        for line in ("start x=1", "start queue=1", "start devices=1", "start Size=1", "start size", "start size=", "start 4",
                     "start =4", "start size=1=1", "start size =1", "start count=1", "start config=1"):
            self.refused("device", line)

    def test_settings_that_are_named_twice(self):
        for line in ("device queue=1 queue=1", "device queue=1 idle=2 queue=3", "device idle=1 idle=1 idle=1"):
            self.refused(line)
        for line in ("start size=1 size=1", "start size=1 jobs=1 size=2"):
            self.refused("device", line)

    def test_settings_at_the_edge_and_one_past_it(self):
        ranges = {"queue": (1, 16), "sending": (1, 16), "slots": (1, 32), "pace": (1, 16), "wait": (1, 32), "idle": (1, 32),
                  "room": (16, 64)}
        for name, (low, high) in ranges.items():
            for number in (low, high):
                self.assertEqual(script(f"device {name}={number}", "start"), [])
            for number in (low - 1, high + 1, 9999):
                self.refused(f"device {name}={number}")
        for line in ("device count=0", "device count=5", "device queue=2 count=3", "device receive=0", "device transmit=0"):
            self.refused(line)
        for line in ("device count=4", "device queue=2 count=2", "device count=5 queue=5", "device receive=11",
                     "device transmit=11", "device receive=9999"):
            self.assertEqual(script(line), [])

    def test_a_budget_that_is_too_great_is_refused_at_start(self):
        self.refused("device receive=12", "start")
        self.refused("device receive=9999", "", "start", at=3)
        self.assertEqual(script("device receive=11", "start"), [])


class StartTest(ConsoleCase):
    def test_settings_at_the_edge_and_one_past_it(self):
        ranges = {"buffers": (2, 256), "size": (1, 16), "period": (6, 64), "jobs": (1, 14)}
        for name, (low, high) in ranges.items():
            for number in (low, high):
                self.assertEqual(script("device", f"start {name}={number}"), [])
            for number in (low - 1, high + 1, 9999):
                self.refused("device", f"start {name}={number}")
        self.refused("device", "device", "start buffers=3")
        self.assertEqual(script("device", "device", "start buffers=4"), [])

    def test_start_without_a_device(self):
        self.refused("start")
        self.refused("# device", "", "start", at=3)

    def test_one_to_four_devices(self):
        for many in (1, 2, 3, 4):
            self.assertEqual(script(*["device"] * many, "start"), [])
        self.refused(*["device"] * 5, "start")
        self.refused(*["device"] * 6, "start period=64")
        # The fifth device alone is not refused.
        self.assertEqual(script(*["device"] * 5), [])

    def test_start_twice(self):
        self.refused("device", "start", "start")
        self.refused("device", "start", "tick 1", "start size=1")

    def test_device_after_start(self):
        self.refused("device", "start", "device")
        self.refused("device", "start", "tick 0", "device queue=3")

    def test_any_other_command_before_start(self):
        for line in ("arrive 0 1", "mask 0", "unmask 0", "read 0 1", "write 0 1", "tick 0", "tick 1", "show 0", "log"):
            self.refused(line)
            self.refused("device", line, "start", at=2)
            self.assertEqual(script("device", "start", line)[1:], [])


class CommandsTest(ConsoleCase):
    def test_too_few_and_too_many_words(self):
        self.each_refused("arrive", "arrive 0", "write", "write 0", "mask", "mask 0 1", "unmask", "unmask 0 0", "read",
                          "read 0", "read 0 1 1", "tick", "tick 1 1", "show", "show 0 0", "log 0", "log x", "log log")

    def test_one_to_64_bytes(self):
        for name in ("arrive", "write"):
            for many in (1, 2, 64):
                self.each_accepted(" ".join([name, "0"] + ["5"] * many))
            for many in (0, 65, 66):
                self.each_refused(" ".join([name, "0"] + ["5"] * many))

    def test_devices_lines_and_bytes_at_the_edge_and_one_past_it(self):
        for many in (1, 2, 4):
            before = ("device",) * many + ("start",)
            last, lines = many - 1, 2 * many
            self.each_accepted("arrive 0 0", f"arrive {last} 255", f"write {last} 0 255", f"read {last} 0", f"read {last} 64",
                               "mask 0", f"mask {lines - 1}", f"unmask {lines - 1}", "tick 0", "tick 1000", before=before)
            self.each_refused(f"arrive {many} 0", f"arrive {last} 256", f"write {many} 0", f"write {last} 256",
                              f"write {last} 1 2 256 3", f"arrive {last} 1 2 3 9999", f"read {many} 0", f"read {last} 65",
                              f"mask {lines}", f"unmask {lines}", "tick 1001", "tick 9999", f"show {many}", "show 9999",
                              before=before)
            self.assertEqual(script(*before, f"show {last}"), [f"device {last} in out"])

    def test_each_command_and_its_events(self):
        found = script("device queue=2 room=16", "device", "start", "arrive 0 1 2 3", "mask 3", "unmask 2", "read 1 5",
                       "write 1 9 8", "arrive 1 0", "tick 1", "log")
        self.assertEqual(found[:8], ["0 arrived 0 1", "0 arrived 0 2", "0 lost 0 3", "0 mask 3", "0 unmask 2", "0 read 1 -",
                                     "0 written 1 9,8", "0 arrived 1 0"])
        self.assertEqual(found[8:], ["0 period", "0 pending 0", "0 pending 2", "0 armed 0 0"])

    def test_a_write_that_fits_in_part(self):
        words = " ".join(["write", "0"] + ["7"] * 20)
        found = script("device", "start", words, words, "tick 1", "log")
        self.assertEqual(found[:2], ["0 written 0 " + ",".join(["7"] * 16), "0 written 0 -"])

    def test_the_commands_belong_to_the_first_tick(self):
        found = script("device", "start", "arrive 0 5", "tick 3", "log")
        self.assertEqual(found, ["0 arrived 0 5", "0 period", "0 pending 0", "0 armed 0 0", "1 run 0 5", "2 armed 0 1"])
        found = script("device", "start", "tick 2", "mask 1", "tick 2", "tick 1", "log")
        self.assertEqual([line for line in found if "mask" in line], ["2 mask 1"])

    def test_tick_0_keeps_the_commands(self):
        wanted = script("device", "start", "arrive 0 5", "write 0 6", "tick 2", "log")
        self.assertEqual(script("device", "start", "arrive 0 5", "tick 0", "tick 0", "write 0 6", "tick 0", "tick 2", "log"),
                         wanted)
        self.assertEqual(script("device", "start", "arrive 0 5", "tick 0", "log", "show 0"), ["device 0 in out"])

    def test_commands_without_a_tick_behind_them(self):
        self.assertEqual(script("device", "start", "tick 1", "arrive 0 5", "show 0"), ["device 0 in out"])

    def test_several_ticks_in_one_line(self):
        before = ("device slots=1", "start", "write 0 1 2 3")
        wanted = script(*before, *["tick 1"] * 30, "log", "show 0")
        for ticks in (("tick 30",), ("tick 7", "tick 23"), ("tick 1", "tick 0", "tick 29")):
            self.assertEqual(script(*before, *ticks, "log", "show 0"), wanted)
        found = script("device slots=1", "start", "tick 1000", "log")
        self.assertEqual(found[-1], "999 idle")

    def words_of(self, command):
        parts = [part if isinstance(part, list) else [part] for part in command]
        return " ".join(str(word) for part in parts for word in part)

    def test_a_script_and_a_run(self):
        for seed in range(12):
            many = 1 + seed % 3
            config = Config(devices=[Settings(queue=3, idle=2)] * many, buffers=3 * many, size=3, period=18, jobs=5)
            lines = ["device queue=3 idle=2"] * many + [f"start buffers={3 * many} size=3 period=18 jobs=5"]
            runtime, logged, wanted = Runtime(config), 0, []
            for tick, commands in enumerate(some_schedule(seed, many, 50)):
                # The console has no command that writes nothing.
                commands = [command for command in commands if command[-1] != []]
                lines += [self.words_of(command) for command in commands] + ["tick 1"]
                runtime.step(commands)
                if tick % 4 == 0:
                    lines += ["log"]
                    wanted += [format_event(event) for event in runtime.events[logged:]]
                    logged = len(runtime.events)
            self.assertEqual(script(*lines), wanted)


class ShowTest(ConsoleCase):
    def test_bytes_on_both_ways(self):
        found = script("device", "device", "start", "mask 0", "arrive 0 1 200", "write 0 5 6", "arrive 1 7", "tick 1", "show 0",
                       "show 1", "show 0")
        self.assertEqual(found, ["device 0 in 1 200 out 5 6", "device 1 in 7 out", "device 0 in 1 200 out 5 6"])

    def test_marks(self):
        found = script("device queue=2", "start", "mask 0", "arrive 0 1 2 3 4 5", "tick 1", "show 0")
        self.assertEqual(found, ["device 0 in 1 2 lost:3 out"])

    def test_marks_in_different_places(self):
        lines = ["device queue=1 receive=6 slots=8", "start period=20 jobs=10", "arrive 0 1 2", "tick 2", "arrive 0 3 4"]
        self.assertEqual(script(*lines, "tick 1", "show 0"), ["device 0 in 1 lost:1 3 lost:1 out"])
        for ticks in range(1, 30):
            self.assertEqual(script(*lines, f"tick {ticks}", "show 0"), ["device 0 in 1 lost:1 3 lost:1 out"])
        self.assertEqual(script(*lines, "tick 30", "read 0 1", "tick 1", "show 0"), ["device 0 in lost:1 3 lost:1 out"])

    def test_what_has_been_read_or_sent_is_not_shown(self):
        lines = ["device", "start size=1", "arrive 0 7 8", "write 0 1 2"]
        before = script(*lines, "tick 1", "show 0")
        self.assertEqual(before, ["device 0 in 7 8 out 1 2"])
        found = script(*lines, "tick 60", "read 0 1", "tick 1", "show 0", "read 0 9", "tick 60", "show 0")
        self.assertEqual(found, ["device 0 in 8 out", "device 0 in out"])

    def test_it_changes_nothing(self):
        lines = ["device", "start", "arrive 0 7 8", "write 0 1 2", "tick 5"]
        self.assertEqual(script(*lines, "show 0", "show 0", "tick 9", "log")[2:], script(*lines, "tick 9", "log"))


class LogTest(ConsoleCase):
    def test_log_twice(self):
        before = ("device", "start", "tick 1", "log")
        self.assertEqual(script(*before), ["0 period", "0 armed 0 0"])
        self.assertEqual(script(*before, "log"), ["0 period", "0 armed 0 0"])
        self.assertEqual(script(*before, "tick 1", "log", "log"), ["0 period", "0 armed 0 0", "1 armed 0 1"])
        self.assertEqual(script(*before, "tick 2", "tick 1", "log", "tick 1", "log")[2:],
                         ["1 armed 0 1", "2 idle", "3 idle", "4 idle"])

    def test_log_without_an_event(self):
        self.assertEqual(script("device", "start", "log", "arrive 0 1", "log", "tick 0", "log"), [])

    def test_show_does_not_count_as_log(self):
        self.assertEqual(script("device", "start", "tick 1", "show 0", "log"), ["device 0 in out", "0 period", "0 armed 0 0"])

    def test_lists_and_marks_in_the_log(self):
        found = script("device queue=2 count=2 receive=3 slots=3", "start size=1", "arrive 0 1 2 3", "tick 30", "read 0 9",
                       "read 0 9", "write 0 4 5", "tick 1", "log")
        self.assertEqual(found[-4:-1], ["30 read 0 1,2,lost:1", "30 read 0 -", "30 written 0 4,5"])
        words = [line.split(" ") for line in found]
        self.assertEqual([row[1:] for row in words if row[1] == "run"][:3],
                         [["run", "0", "1"], ["run", "0", "2"], ["run", "0", "lost:1"]])
        self.assertEqual([row[1:] for row in words if row[1] == "delivered"],
                         [["delivered", "0", "1", "0"], ["delivered", "0", "1", "0"], ["delivered", "0", "0", "1"]])


if __name__ == "__main__":
    unittest.main()
