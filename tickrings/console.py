"""The console, which performs scripts."""

from tickrings.config import Config, Settings
from tickrings.errors import CommandError, ConfigError
from tickrings.marks import is_mark, lost_by
from tickrings.runtime import Runtime

_DEVICE_SETTINGS = ("queue", "sending", "slots", "pace", "count", "wait", "idle", "room", "receive", "transmit")
_START_SETTINGS = ("buffers", "size", "period", "jobs")
_DIGITS = "0123456789"
# The most bytes that a line may read, write or let arrive, and the most ticks that it may perform.
_MOST_BYTES = 64
_MOST_TICKS = 1000


def _words(line):
    return [word for word in line.split(" ") if word]


def _is_number(word):
    return 1 <= len(word) <= 4 and all([sign in _DIGITS for sign in word])


def _format_item(item):
    if is_mark(item):
        return f"lost:{lost_by(item)}"
    return str(item)


def _format_part(part):
    if not isinstance(part, list):
        return _format_item(part)
    if not part:
        return "-"
    return ",".join([_format_item(item) for item in part])


def format_event(event):
    """Return the line of an event."""
    name, tick, *parts = event
    return " ".join([str(tick), name] + [_format_part(part) for part in parts])


class Script:
    """What the lines of a script have done so far."""

    def __init__(self):
        self.output = []
        self._line = 0
        self._settings = []
        self._runtime = None
        # The commands for the next tick.
        self._commands = []
        # The number of the events that "log" has output.
        self._logged = 0

    def perform(self, line, words):
        """Check and perform the words of the line with this number."""
        self._line = line
        name = words[0]
        rest = words[1:]
        if self._runtime is None:
            self._prepare(name, rest)
        else:
            self._obey(name, rest)

    def _prepare(self, name, rest):
        match name:
            case "device":
                self._add_device(rest)
            case "start":
                self._start(rest)
            case _:
                self._require(False)

    def _obey(self, name, rest):
        match name:
            case "arrive":
                self._arrive(rest)
            case "mask" | "unmask":
                self._require(len(rest) == 1)
                self._commands.append((name, self._handler_line(rest[0])))
            case "read":
                self._require(len(rest) == 2)
                self._commands.append(("read", self._device(rest[0]), self._number_up_to(rest[1], _MOST_BYTES)))
            case "write":
                self._commands.append(("write", self._device_of(rest), self._bytes_of(rest)))
            case "tick":
                self._perform_ticks(rest)
            case "show":
                self._require(len(rest) == 1)
                self._show(self._device(rest[0]))
            case "log":
                self._require(not rest)
                self._log()
            case _:
                self._require(False)

    def _require(self, allowed):
        if not allowed:
            raise CommandError(self._line)

    def _number(self, word):
        self._require(_is_number(word))
        return int(word)

    def _number_up_to(self, word, last):
        number = self._number(word)
        self._require(number <= last)
        return number

    def _device(self, word):
        return self._number_up_to(word, len(self._settings) - 1)

    def _handler_line(self, word):
        return self._number_up_to(word, 2 * len(self._settings) - 1)

    def _device_of(self, words):
        # Behind the device stands at least one byte.
        self._require(2 <= len(words) <= 1 + _MOST_BYTES)
        return self._device(words[0])

    def _bytes_of(self, words):
        return [self._number_up_to(word, 255) for word in words[1:]]

    def _named(self, words, names):
        chosen = {}
        for word in words:
            name, _, number = word.partition("=")
            self._require(name in names and name not in chosen)
            chosen[name] = self._number(number)
        return chosen

    def _add_device(self, words):
        chosen = self._named(words, _DEVICE_SETTINGS)
        try:
            self._settings.append(Settings(**chosen))
        except ConfigError:
            raise CommandError(self._line) from None

    def _start(self, words):
        chosen = self._named(words, _START_SETTINGS)
        chosen["devices"] = self._settings
        try:
            config = Config(**chosen)
        except ConfigError:
            raise CommandError(self._line) from None
        self._runtime = Runtime(config)

    def _arrive(self, words):
        d = self._device_of(words)
        for byte in self._bytes_of(words):
            self._commands.append(("arrive", d, byte))

    def _perform_ticks(self, words):
        self._require(len(words) == 1)
        for _ in range(self._number_up_to(words[0], _MOST_TICKS)):
            self._runtime.step(self._commands)
            self._commands = []

    def _show(self, d):
        device = self._runtime.devices[d]
        items = [_format_item(item) for item in device.inbound()]
        data = [str(byte) for byte in device.outbound()]
        self.output.append(" ".join(["device", str(d), "in"] + items + ["out"] + data))

    def _log(self):
        events = self._runtime.events
        for event in events[self._logged:]:
            self.output.append(format_event(event))
        self._logged = len(events)


def perform_script(text):
    """Perform a script and return the list of its output lines."""
    script = Script()
    for at, line in enumerate(text.split("\n")):
        words = _words(line)
        if words and not words[0].startswith("#"):
            script.perform(at + 1, words)
    return script.output
