"""The settings of devices and of the runtime, and their ranges."""

from tickrings.errors import ConfigError


def _require(setting, in_range):
    if not in_range:
        raise ConfigError(setting)


def _budget_sum(devices, jobs):
    return sum([device.receive + device.transmit for device in devices]) + jobs


class Settings:
    """The settings of a device."""

    def __init__(self, *, queue=4, sending=4, slots=2, pace=1, count=1, wait=1,
                 idle=4, room=16, receive=1, transmit=1):
        # The order of the checks decides which setting an error names.
        _require("queue", 1 <= queue <= 16)
        _require("sending", 1 <= sending <= 16)
        _require("slots", 1 <= slots <= 32)
        _require("pace", 1 <= pace <= 16)
        _require("count", 1 <= count <= queue)
        _require("wait", 1 <= wait <= 32)
        _require("idle", 1 <= idle <= 32)
        _require("room", 16 <= room <= 64)
        _require("receive", receive >= 1)
        _require("transmit", transmit >= 1)
        self.queue = queue
        self.sending = sending
        self.slots = slots
        self.pace = pace
        self.count_limit = count
        self.wait = wait
        self.idle = idle
        self.room = room
        self.receive = receive
        self.transmit = transmit


class Config:
    """The configuration of a runtime: its devices and its own settings."""

    def __init__(self, *, devices, buffers=8, size=4, period=16, jobs=4):
        _require("devices", 1 <= len(devices) <= 4)
        _require("buffers", 2 * len(devices) <= buffers <= 256)
        _require("size", 1 <= size <= 16)
        _require("period", 1 <= period <= 64)
        _require("jobs", jobs >= 1)
        _require("budgets", _budget_sum(devices, jobs) <= period)
        # A copy, so that the caller's list can change without the configuration.
        self.devices = list(devices)
        self.buffers = buffers
        self.size = size
        self.period = period
        self.jobs = jobs
