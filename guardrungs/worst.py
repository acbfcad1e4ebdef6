"""The longest times that jobs take, whatever the offsets are."""

from math import gcd

from guardrungs.cutting import check_jobs, check_place


def _rounded_up(number, other):
    return (number + other - 1) // other


def _row(jobs, place):
    """The row of responses."""
    rungs, period, _ = jobs[place]
    row = [rungs]
    while row[-1] <= period:
        behind = rungs + sum([many * _rounded_up(row[-1], each) for many, each, _ in jobs[:place]])
        if behind == row[-1]:
            break
        row.append(behind)
    return row


def rows_of_response(jobs, place):
    """The row of responses of the task."""
    told = check_jobs(jobs)
    check_place(told, place)
    return tuple(_row(told, place))


def response(jobs, place):
    """The number at which the row of responses stands still; None if its last number is greater than the period."""
    told = check_jobs(jobs)
    check_place(told, place)
    last = _row(told, place)[-1]
    return last if last <= told[place][1] else None


def never_misses(jobs):
    """True exactly if each task has a response."""
    told = check_jobs(jobs)
    return all([_row(told, place)[-1] <= told[place][1] for place in range(len(told))])


def by_periods(jobs):
    """All places, shorter periods first."""
    told = check_jobs(jobs)
    pairs = sorted([(period, place) for place, (_, period, _) in enumerate(told)])
    return tuple([place for _, place in pairs])


def load(jobs):
    """The sum of rungs / period in lowest terms."""
    above, below = 0, 1
    for rungs, period, _ in check_jobs(jobs):
        above, below = above * period + rungs * below, below * period
        both = gcd(above, below)
        above, below = above // both, below // both
    return above, below
