"""Cut tasks: jobs of rungs that are run one a tick, the most urgent first."""

from math import lcm

from guardrungs.bits import is_listed, is_whole
from guardrungs.errors import BadNumber, TooMany
from guardrungs.tasks import is_time


def check_jobs(jobs):
    """The jobs as tuples."""
    if not is_listed(jobs):
        raise BadNumber("jobs")
    if len(jobs) > 5:
        raise TooMany(5)
    for job in jobs:
        if not is_listed(job) or len(job) != 3 or not is_whole(job[0], 1, 12) or not is_time(job[1], job[2], 24):
            raise BadNumber("jobs")
    return tuple([tuple(job) for job in jobs])


def check_place(jobs, place):
    """Raise BadNumber unless this is the place of a task."""
    if not is_whole(place, 0, len(jobs) - 1):
        raise BadNumber("place")


class Clock:
    """Ticks, and what is left of each task's jobs; missed is the first miss so far, None if there is none."""

    def __init__(self, jobs):
        self.jobs = jobs
        self.tick = 0
        self.left = [0] * len(jobs)
        self.missed = None

    def run_tick(self):
        """The place of the task that runs a rung at the next tick; -1 if none does."""
        for place, (rungs, period, offset) in list(enumerate(self.jobs)):
            if self.tick % period == offset:
                if self.left[place] > 0 and self.missed is None:
                    self.missed = (place, self.tick)
                self.left[place] += rungs
        self.tick += 1
        for place in range(len(self.left)):
            if self.left[place] > 0:
                self.left[place] -= 1
                return place
        return -1


def settled(jobs):
    """The first miss; and, if there is none, two ticks from which on all goes on alike, else None and None."""
    common = 1
    for _, period, _ in jobs:
        common = lcm(common, period)
    clock = Clock(jobs)
    met = {}
    while clock.missed is None:
        if clock.tick % common == 0:
            left = tuple(clock.left)
            if left in met:
                return None, met[left], clock.tick
            met[left] = clock.tick
        clock.run_tick()
    return clock.missed, None, None


def who_runs(jobs, ticks):
    """For each of so many ticks the place of the task that runs a rung; -1 if none does."""
    clock = Clock(check_jobs(jobs))
    if not is_whole(ticks, 0, None):
        raise BadNumber("ticks")
    return tuple([clock.run_tick() for _ in range(ticks)])


def first_miss(jobs):
    """The most urgent task that misses at the least tick at which one does, and the tick; None if none ever does."""
    return settled(check_jobs(jobs))[0]


def job_ends(jobs, place, many):
    """The times that the first jobs of the task take, so many, but none that is not ended ahead of the first miss."""
    told = check_jobs(jobs)
    check_place(told, place)
    if not is_whole(many, 0, 200):
        raise BadNumber("many")
    missed, _, _ = settled(told)
    rungs, period, offset = told[place]
    clock = Clock(told)
    times = []
    run = 0
    while len(times) < many and (missed is None or clock.tick < missed[1]):
        if clock.run_tick() == place:
            run += 1
            if run == rungs:
                times.append(clock.tick - offset - len(times) * period)
                run = 0
    return tuple(times)
