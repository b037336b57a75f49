"""The names of the interface: each is defined in its own file, with its own methods and arguments."""

import importlib
import inspect
import unittest

from tickrings.config import Config, Settings

# Module, class, the arguments of its creation, its fields, and its methods with their arguments.
CLASSES = [
    ("pool", "Pool", ["many"], [], {
        "free": [], "owner": ["buffer"], "held": ["owner"], "acquire": ["owner"], "release": ["buffer"],
        "may_acquire": ["owner", "owners"]}),
    ("queues", "ReceiveQueue", ["capacity"], ["capacity"], {
        "arrive": ["byte", "tick"], "first": [], "take": [], "oldest_tick": [], "bytes_held": [],
        "contents": []}),
    ("queues", "TransmitQueue", ["capacity"], ["capacity"], {
        "put": ["byte"], "take": [], "space": [], "contents": []}),
    ("lines", "Lines", ["many"], [], {
        "raise_line": ["line"], "clear_line": ["line"], "mask": ["line"], "unmask": ["line"],
        "is_pending": ["line"], "is_masked": ["line"], "candidates": []}),
    ("slots", "SlotRing", ["slots"], [], {
        "can_arm": [], "arm": ["buffer"], "open_slot": [], "open_bytes": [], "open_count": [],
        "add": ["byte"], "close": ["lost"], "oldest": [], "reap": [], "filled_slots": [], "buffers": []}),
    ("streams", "ReadStream", ["room"], ["room"], {
        "space": [], "append": ["items"], "read": ["n"], "contents": []}),
    ("streams", "WriteStream", ["room"], ["room"], {
        "write": ["data"], "take": ["n"], "held": [], "contents": []}),
    ("budgets", "Budgets", ["amounts"], [], {"left": ["which"], "charge": ["which"], "refill": []}),
    ("receiving", "Receiver", ["queue", "ring", "size", "idle"], ["queue", "ring", "size", "idle", "latest"], {
        "can_step": [], "step": ["now"], "close_idle": ["now"]}),
    ("sending", "Sender", ["queue", "ring", "pool"], ["queue", "ring", "pool", "moved"], {
        "can_step": [], "step": [], "waiting": []}),
    ("device", "Device", ["index", "settings", "size", "pool"], [
        "index", "settings", "incoming", "outgoing", "receive_ring", "transmit_ring", "reading", "writing",
        "receiver", "sender"], {
        "receive_owner": [], "transmit_owner": [], "inbound": [], "outbound": []}),
    ("runtime", "Runtime", ["config"], [
        "config", "tick", "turn", "pool", "devices", "lines", "budgets", "events"], {"step": ["commands"]}),
    ("judging", "Model", ["config"], [], {"accept": ["event"], "rest_of_tick": []}),
]
FUNCTIONS = [
    ("lines", "wakes", ["held", "oldest", "now", "count", "wait"]),
    ("work", "choice", ["pending", "masked", "left", "able", "jobs_left", "turn", "able_jobs"]),
    ("jobs", "can_work", ["devices", "pool", "owners", "job"]),
    ("jobs", "perform", ["devices", "pool", "size", "job"]),
    ("runtime", "run", ["config", "schedule"]),
    ("judging", "first_fault", ["config", "events"]),
    ("bounds", "steps_bound", ["config"]),
    ("bounds", "drain_bound", ["config"]),
    ("console", "perform_script", ["text"]),
    ("console", "format_event", ["event"]),
    ("rates", "admits", ["config", "rates"]),
    ("rates", "warm_up", ["config"]),
    ("rates", "latency", ["config", "at"]),
]
# What the arguments are given that are no plain numbers.
GIVEN = {"amounts": [3], "settings": Settings(), "config": Config(devices=[Settings()])}


def found_in(module, name):
    return getattr(importlib.import_module("tickrings." + module), name)


def arguments(function):
    return list(inspect.signature(function).parameters)


class InterfaceTest(unittest.TestCase):
    def test_every_name_is_defined_in_its_own_file(self):
        for module, name, *_ in CLASSES + FUNCTIONS:
            self.assertEqual(found_in(module, name).__module__, "tickrings." + module, name)

    def test_every_method_stands_in_the_class_itself(self):
        for module, name, _, _, methods in CLASSES:
            for method in methods:
                self.assertIn(method, vars(found_in(module, name)), name)

    def test_the_arguments_have_their_names(self):
        for module, name, made_with, _, methods in CLASSES:
            self.assertEqual(arguments(found_in(module, name)), made_with, name)
            for method, wanted in methods.items():
                self.assertEqual(arguments(getattr(found_in(module, name), method)), ["self"] + wanted, method)
        for module, name, wanted in FUNCTIONS:
            self.assertEqual(arguments(found_in(module, name)), wanted, name)

    def test_the_fields_are_set_when_the_object_is_created(self):
        for module, name, made_with, fields, _ in CLASSES:
            given = [GIVEN.get(argument, 3) for argument in made_with]
            made = found_in(module, name)(*given)
            for field in fields:
                self.assertIn(field, vars(made), name)


if __name__ == "__main__":
    unittest.main()
