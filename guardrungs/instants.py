"""Whether all that a job of a cut task reads was so at one moment."""

from guardrungs.bits import is_listed, is_whole
from guardrungs.cutting import Clock, check_jobs, check_place, settled
from guardrungs.errors import BadNumber, OtherShape
from guardrungs.formulas import is_name

# A task writes each of its names at least once in so many ticks: within a period a job comes, within another it ends.
REACH = 100


def _is_rung(rung):
    if not is_listed(rung) or len(rung) != 2:
        return False
    return all([is_listed(names) and all([is_name(name) for name in names]) for names in rung])


def _told_writers(jobs, programs):
    """For each written name the place of the task that writes it, if these are programs."""
    if not is_listed(programs) or len(programs) != len(jobs):
        raise BadNumber("programs")
    writers = {}
    for place, (program, job) in list(enumerate(zip(programs, jobs))):
        if not is_listed(program) or len(program) != job[0] or not all([_is_rung(rung) for rung in program]):
            raise BadNumber("programs")
        for _, writes in list(program):
            for name in list(writes):
                if writers.setdefault(name, place) != place:
                    raise BadNumber("programs")
    return writers


class Stretches:
    """The reads of the jobs of one task, and of each its stretch.

    A read in the making is a list of name, tick, first and last moment; the last one is None until the name is
    written next.
    """

    def __init__(self, jobs, programs, place, until):
        self.programs = programs
        self.place = place
        self.writers = _told_writers(jobs, programs)
        self.since = {}
        self.pending = {}
        self.reads = []
        run = [0] * len(jobs)
        clock = Clock(jobs)
        while clock.tick < until:
            tick = clock.tick
            runs = clock.run_tick()
            if runs >= 0:
                rungs = jobs[runs][0]
                self.run_rung(runs, run[runs] // rungs, run[runs] % rungs, tick)
                run[runs] += 1

    def run_rung(self, place, job, number, tick):
        """Let this rung of this job of the task at the place be run at the tick."""
        reads, writes = self.programs[place][number]
        if place == self.place:
            if job == len(self.reads):
                self.reads.append([])
            for name in list(reads):
                if self.writers.get(name, place) != place:
                    read = [name, tick, self.since.get(name, 0), None]
                    self.reads[job].append(read)
                    self.pending.setdefault(name, []).append(read)
        for name in list(writes):
            for read in list(self.pending.get(name, [])):
                read[3] = tick
            self.pending[name] = []
            self.since[name] = tick + 1

    def reads_of(self, job):
        """The reads of this job as tuples."""
        return tuple([tuple(read) for read in self.reads[job]])


def _moment(reads):
    """The least moment that is in all stretches; None if there is none."""
    first = max([read[2] for read in reads], default=0)
    last = min([read[3] for read in reads], default=first)
    return first if first <= last else None


def _check_task(jobs, programs, place):
    """The jobs as tuples, if jobs, programs and place are right."""
    told = check_jobs(jobs)
    _told_writers(told, programs)
    check_place(told, place)
    return told


def _check_job(jobs, programs, place, number):
    """The same with the number of a job; nothing is ever missed."""
    told = _check_task(jobs, programs, place)
    if not is_whole(number, 0, 200):
        raise BadNumber("number")
    if settled(told)[0] is not None:
        raise OtherShape()
    return told


def stretch(jobs, programs, place, number):
    """The reads, by this job of the task, of names that other tasks write."""
    told = _check_job(jobs, programs, place, number)
    _, period, offset = told[place]
    until = offset + (number + 1) * period + REACH
    return Stretches(told, programs, place, until).reads_of(number)


def one_moment(jobs, programs, place, number):
    """The least moment that is in all these stretches; None if there is none."""
    return _moment(stretch(jobs, programs, place, number))


def _first_torn(jobs, programs, place):
    """The number of the first job without a moment of its own, and its reads; None if there is none."""
    told = _check_task(jobs, programs, place)
    missed, begin, again = settled(told)
    if missed is not None:
        raise OtherShape()
    _, period, offset = told[place]
    # Jobs that come later are like earlier ones, their reads and what these read moved on.
    last = again + (again - begin) + REACH
    many = (last - offset) // period + 1
    stretches = Stretches(told, programs, place, last + period + REACH)
    for number in range(many):
        reads = stretches.reads_of(number)
        if _moment(reads) is None:
            return number, reads
    return None


def always_one(jobs, programs, place):
    """True exactly if each job of the task reads what was so at one moment."""
    return _first_torn(jobs, programs, place) is None


def _apart(reads):
    """The first two reads whose stretches have no moment in common."""
    for at, read in enumerate(reads):
        for other in reads[at + 1:]:
            if _moment((read, other)) is None:
                return read, other
    return None


def torn(jobs, programs, place):
    """The first job without a moment of its own, and two of its reads that have none in common; None without any."""
    found = _first_torn(jobs, programs, place)
    if found is None:
        return None
    read, other = _apart(found[1])
    return found[0], read, other


def _rule(read):
    """A rule by which the name has, in the stretch of the read alone, the bit that is read."""
    name, _, first, _ = read
    # What stands from the beginning is 0, so that all writings must write 1.
    return (name, 1, None) if first == 0 else (name, 0, first - 1)


def torn_bits(jobs, programs, place):
    """The number of a job, and rules by which at no moment all was as the job reads it; None if there are none."""
    found = torn(jobs, programs, place)
    if found is None:
        return None
    number, read, other = found
    if read[0] == other[0]:
        later = max([(read[2], read), (other[2], other)])[1]
        return number, (_rule(later),)
    return number, (_rule(read), _rule(other))
