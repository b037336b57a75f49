"""The rates of arriving bytes of which a configuration loses none."""


def _job_share(config):
    return config.jobs // (3 * len(config.devices))


def _device_admits(settings, rate, share):
    if rate == 0:
        return True
    if settings.count_limit != 1 or rate > settings.receive or 2 * rate > settings.queue:
        return False
    closings = min(settings.receive, 2 * rate) + 1
    return settings.slots > 3 * closings and share >= 2 * closings


def admits(config, rates):
    """Return True if a configuration admits a list with a rate for each device, otherwise False."""
    # Each device has two rings.
    if config.buffers < sum([2 * settings.slots for settings in config.devices]):
        return False
    share = _job_share(config)
    return all([_device_admits(settings, rates[d], share) for d, settings in enumerate(config.devices)])


def warm_up(config):
    """Return the number of periods from tick 0 on in which no byte arrives."""
    share = _job_share(config)
    if share == 0:
        return 0
    slots = max([settings.slots for settings in config.devices])
    return (slots + share - 1) // share


def latency(config, at):
    """Return the number of ticks after which each byte of the device with this index has been read."""
    return 4 * config.period + config.size * config.devices[at].idle
