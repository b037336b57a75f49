"""All errors of the program."""


class TickringsError(ValueError):
    """The base class of all errors of the program."""


class ConfigError(TickringsError):
    """A setting is out of its range."""

    def __init__(self, setting):
        super().__init__(f"out of its range: {setting}")
        self.setting = setting


class RingError(TickringsError):
    """A ring is full, or has no value to give."""

    def __init__(self, held):
        super().__init__(f"not possible with {held} values in the ring")
        self.held = held


class PoolError(TickringsError):
    """A buffer cannot be acquired or released."""

    def __init__(self, buffer):
        super().__init__(f"no buffer to acquire or release: {buffer}")
        self.buffer = buffer


class BudgetError(TickringsError):
    """Nothing is left of a budget."""

    def __init__(self, which):
        super().__init__(f"nothing is left of budget {which}")
        self.which = which


class StreamFull(TickringsError):
    """A stream has too little space."""

    def __init__(self, space):
        super().__init__(f"only {space} more bytes fit")
        self.space = space


class CommandError(TickringsError):
    """A line of a script cannot be performed."""

    def __init__(self, line):
        super().__init__(f"line {line} cannot be performed")
        self.line = line
