"""The numbers of lines, rings, budgets and jobs, which all follow from the numbers of the devices."""

# The jobs of each device, in the order of their numbers.
DELIVER = 0
REFILL = 1
STAGE = 2
JOBS_OF_EACH = 3


def receive_number(d):
    """Return the number of the receive line and of the receive ring of a device."""
    return 2 * d


def transmit_number(d):
    """Return the number of the transmit line and of the transmit ring of a device."""
    return 2 * d + 1


def all_numbers(many):
    """Return the list of the numbers of all lines, or of all rings, of so many devices."""
    return list(range(2 * many))


def device_of_line(line):
    """Return the number of the device to which a line belongs."""
    return line // 2


def is_receive(line):
    """Return True if a line is a receive line and False if it is a transmit line."""
    return line % 2 == 0


def job_budget(many):
    """Return the number of the job budget, behind those of the lines of so many devices."""
    return 2 * many


def budget_amounts(config):
    """Return the list of the full budgets in the order of their numbers."""
    amounts = []
    for settings in config.devices:
        amounts.extend([settings.receive, settings.transmit])
    return amounts + [config.jobs]


def all_jobs(many):
    """Return the list of the numbers of all jobs of so many devices."""
    return list(range(JOBS_OF_EACH * many))


def device_of_job(job):
    """Return the number of the device to which a job belongs."""
    return job // JOBS_OF_EACH


def kind_of_job(job):
    """Return DELIVER, REFILL or STAGE."""
    return job % JOBS_OF_EACH
