"""The jobs of the devices: deliver, refill and stage."""

from tickrings.marks import with_mark
from tickrings.numbering import DELIVER, REFILL, device_of_job, kind_of_job


def _can_deliver(device):
    slot = device.receive_ring.oldest()
    return slot is not None and len(slot[1]) <= device.reading.space()


def _can_refill(device, pool, owners):
    return device.receive_ring.can_arm() and pool.may_acquire(device.receive_owner(), owners)


def _can_stage(device, pool, owners):
    if device.writing.held() == 0 or not device.transmit_ring.can_arm():
        return False
    return pool.may_acquire(device.transmit_owner(), owners)


def can_work(devices, pool, owners, job):
    """Return True if a job is able to make a step, otherwise False.

    `owners` is the list of the numbers of all rings.
    """
    device = devices[device_of_job(job)]
    kind = kind_of_job(job)
    if kind == DELIVER:
        return _can_deliver(device)
    if kind == REFILL:
        return _can_refill(device, pool, owners)
    return _can_stage(device, pool, owners)


def _deliver(device, pool):
    buffer, data, lost = device.receive_ring.reap()
    device.reading.append(with_mark(data, lost))
    pool.release(buffer)
    return ("delivered", device.index, len(data), lost)


def _refill(device, pool):
    buffer = pool.acquire(device.receive_owner())
    device.receive_ring.arm(buffer)
    return ("armed", device.index, buffer)


def _stage(device, pool, size):
    device.transmit_ring.arm(pool.acquire(device.transmit_owner()))
    data = device.writing.take(size)
    for byte in data:
        device.transmit_ring.add(byte)
    device.transmit_ring.close(0)
    return ("staged", device.index, len(data))


def perform(devices, pool, size, job):
    """Perform a step of a job that is able to make one and return the tuple that tells of it."""
    device = devices[device_of_job(job)]
    kind = kind_of_job(job)
    if kind == DELIVER:
        return _deliver(device, pool)
    if kind == REFILL:
        return _refill(device, pool)
    return _stage(device, pool, size)
