"""Bounds for the steps and the ticks after which nothing is left on the way."""


def _slots_and_room(settings, size):
    return settings.room + settings.slots * size


def _steps_of(settings, size):
    items = 2 * settings.queue + 1
    slots = items + settings.slots
    return items + 2 * slots + settings.slots + 2 * _slots_and_room(settings, size)


def _waiting_of(settings, size):
    to_send = _slots_and_room(settings, size) + settings.sending + 1
    return settings.wait + settings.idle + settings.pace * to_send


def steps_bound(config):
    """Return the step bound of a configuration."""
    return sum([_steps_of(settings, config.size) for settings in config.devices])


def drain_bound(config):
    """Return the drain bound of a configuration."""
    waiting = sum([_waiting_of(settings, config.size) for settings in config.devices])
    return waiting + config.period * (steps_bound(config) + 2)
