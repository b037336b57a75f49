"""The choice of the step that the processor performs in a tick."""


def _chosen_line(pending, masked, left, able):
    for line in range(len(pending)):
        if pending[line] and not masked[line] and able[line] and left[line] > 0:
            return line
    return None


def _chosen_job(turn, able_jobs):
    many = len(able_jobs)
    for behind in range(many):
        job = (turn + behind) % many
        if able_jobs[job]:
            return job
    return None


def choice(pending, masked, left, able, jobs_left, turn, able_jobs):
    """Return ("line", n), ("job", k) or ("idle", -1).

    The lists tell of each line or job; `turn` is the job that comes first.
    """
    line = _chosen_line(pending, masked, left, able)
    if line is not None:
        return ("line", line)
    if jobs_left > 0:
        job = _chosen_job(turn, able_jobs)
        if job is not None:
            return ("job", job)
    return ("idle", -1)
