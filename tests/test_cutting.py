"""Cut tasks, responses, moments."""

import itertools
import unittest

from guardrungs.cutting import first_miss, job_ends, who_runs
from guardrungs.errors import BadNumber, OtherShape, TooMany
from guardrungs.instants import always_one, one_moment, stretch, torn, torn_bits
from guardrungs.worst import by_periods, load, never_misses, response, rows_of_response
from tests.checks import NO_NAMES, NO_NUMBERS, Case, is_tuples
from tests.plain import Chance


class Ticks:
    """Cut tasks tick by tick, by the words of [169]: each job is a list of its own."""

    def __init__(self, jobs, ticks):
        self.runs, self.missed, self.ended, self.ran = [], None, [[] for _ in jobs], []
        waiting = [[] for _ in jobs]
        come = [0] * len(jobs)
        for t in range(ticks):
            for k, (rungs, period, offset) in enumerate(jobs):
                if t >= offset and (t - offset) % period == 0:
                    if any(job[2] for job in waiting[k]) and self.missed is None:
                        self.missed = (k, t)
                    waiting[k].append([t, come[k], rungs])
                    come[k] += 1
            for k, row in enumerate(waiting):
                if row:
                    job = row[0]
                    self.ran.append((t, k, job[1], jobs[k][0] - job[2]))
                    job[2] -= 1
                    if job[2] == 0:
                        self.ended[k].append((t, t + 1 - job[0]))
                        row.pop(0)
                    self.runs.append(k)
                    break
            else:
                self.runs.append(-1)


def random_jobs(chance, tight=False):
    many = chance.random.randint(0, 4)
    told = []
    for _ in range(many):
        period = chance.pick((1, 2, 3, 4, 6, 8, 12, 24) if not tight else (4, 6, 8, 12, 24))
        told.append((chance.random.randint(1, 4), period, chance.random.randrange(period)))
    return tuple(told)


WRONG_JOBS = [None, 3, "ab", {}, (None,), ((1, 2),), ((1, 2, 0, 0),), ("abc",), ((0, 2, 0),), ((13, 2, 0),),
              ((1, 0, 0),), ((1, 25, 0),), ((1, 2, 2),), ((1, 2, -1),)] + [
    [(1, 2, 0), tuple(wrong if k == at else n for k, n in enumerate((1, 2, 0)))] for wrong in NO_NUMBERS for at in range(3)]
PLACES = [-1, 2] + NO_NUMBERS


class TestCutting(Case):
    def test_by_chance(self):
        chance, met = Chance(401), {"missed": 0, "late": 0, "never": 0, "short": 0}
        for number in range(250):
            jobs = random_jobs(chance, number % 2)
            plain = Ticks(jobs, 400)
            self.told(tuple(plain.runs), who_runs, jobs, 400)
            self.told(plain.missed, first_miss, [list(job) for job in jobs])
            met["missed" if plain.missed else "never"] += 1
            met["late"] += plain.missed is not None and plain.missed[1] > 24
            for k, (_, period, _) in enumerate(jobs):
                told = [took for t, took in plain.ended[k] if plain.missed is None or t < plain.missed[1]]
                for many in (0, 1, 2, 10):
                    self.told(tuple(told[:many]), job_ends, jobs, k, many)
                    met["short"] += len(told) < many and bool(told)
        self.assertGreater(min(met.values()), 2, met)

    def test_edges(self):
        self.told((), who_runs, (), 0)
        self.told((-1, -1, -1), who_runs, [], 3)
        self.told(None, first_miss, ())
        self.told((0, 0, 0), who_runs, ((1, 1, 0),), 3)
        self.told((0, 1), first_miss, ((2, 1, 0),))
        self.told((), job_ends, ((2, 1, 0),), 0, 5)
        self.told((), job_ends, ((12, 24, 23),), 0, 0)
        self.told((12,) * 200, job_ends, ((12, 24, 23),), 0, 200)
        # Two tasks miss at one tick: the most urgent of them is told.
        self.told((1, 4), first_miss, ((4, 4, 0), (1, 4, 0), (1, 4, 0)))
        five = ((1, 5, 4),) * 5
        self.told(None, first_miss, five)
        self.told((1, 2, 3, 4, 5), lambda: tuple(job_ends(five, k, 1)[0] for k in range(5)))
        self.told((0, 1, 1, 0, -1, 1, 0, 1), who_runs, ((1, 3, 0), (2, 5, 0)), 8)
        # The rungs that were missed stay, and are run ahead of the new ones.
        self.told((1, 0, 1, 0, 1, 0), who_runs, ((1, 2, 1), (2, 2, 0)), 6)
        self.assertEqual(len(who_runs(((1, 24, 0),), 20000)), 20000)
        self.assertIsNone(first_miss(((1, 16, 0), (1, 9, 0), (1, 5, 0), (1, 7, 0))))

    def test_wrong(self):
        for call, more in ((who_runs, (None,)), (first_miss, ()), (job_ends, (None, None)), (never_misses, ()),
                           (by_periods, ()), (load, ()), (rows_of_response, (None,)), (response, (None,))):
            for wrong in WRONG_JOBS:
                self.refused(BadNumber, {"word": "jobs"}, call, wrong, *more)
            self.refused(TooMany, {"limit": 5}, call, (None,) * 6, *more)
            self.refused(TooMany, {"limit": 5}, call, [(1, 24, 0)] * 6, *more)
        jobs = ((1, 3, 0), [2, 5, 0])
        for wrong in PLACES:
            self.refused(BadNumber, {"word": "place"}, job_ends, jobs, wrong, None)
            self.refused(BadNumber, {"word": "place"}, response, jobs, wrong)
            self.refused(BadNumber, {"word": "place"}, rows_of_response, jobs, wrong)
        self.refused(BadNumber, {"word": "place"}, response, (), 0)
        for wrong in [-1] + NO_NUMBERS:
            self.refused(BadNumber, {"word": "ticks"}, who_runs, jobs, wrong)
            self.refused(BadNumber, {"word": "many"}, job_ends, jobs, 0, wrong)
        self.refused(BadNumber, {"word": "many"}, job_ends, jobs, 0, 201)


class TestResponses(Case):
    def row(self, jobs, place):
        rungs, period, _ = jobs[place]
        row = [rungs]
        while row[-1] <= period:
            behind = rungs + sum(many * -(-row[-1] // each) for many, each, _ in jobs[:place])
            if behind == row[-1]:
                return row
            row.append(behind)
        return row

    def test_by_chance(self):
        chance, met = Chance(402), {"none": 0, "all": 0, "period": 0, "more": 0}
        for number in range(400):
            jobs = random_jobs(chance, number % 2)
            for place, (_, period, _) in enumerate(jobs):
                row = self.row(jobs, place)
                self.told(tuple(row), rows_of_response, jobs, place)
                self.told(row[-1] if row[-1] <= period else None, response, [list(job) for job in jobs], place)
                met["period"] += row[-1] == period
                met["more"] += row[-1] == period + 1
            every = all(self.row(jobs, place)[-1] <= jobs[place][1] for place in range(len(jobs)))
            self.told(every, never_misses, jobs)
            met["all" if every else "none"] += 1
            order = tuple(sorted(range(len(jobs)), key=lambda k: (jobs[k][1], k)))
            self.told(order, by_periods, jobs)
            if every:
                self.assertTrue(never_misses([jobs[k] for k in order]))
        self.assertGreater(min(met.values()), 10, met)

    def test_worst_over_all_offsets(self):
        """[170]: nothing is missed over all offsets exactly if all have a response, which then is the longest time."""
        chance, met = Chance(403), {True: 0, False: 0}
        for _ in range(80):
            sizes = [(chance.random.randint(1, 2), chance.pick((2, 3, 4, 5, 6))) for _ in range(chance.random.randint(1, 3))]
            worst, missed = [0] * len(sizes), False
            for offsets in itertools.product(*[range(period) for _, period in sizes]):
                jobs = tuple((c, p, o) for (c, p), o in zip(sizes, offsets))
                missed = missed or first_miss(jobs) is not None
                for k in range(len(jobs)):
                    worst[k] = max((worst[k],) + job_ends(jobs, k, 40))
            zeros = tuple((c, p, 0) for c, p in sizes)
            self.told(not missed, never_misses, zeros)
            if not missed:
                self.assertEqual([response(zeros, k) for k in range(len(zeros))], worst)
                self.assertEqual([job_ends(zeros, k, 1)[0] for k in range(len(zeros))], worst)
            met[missed] += 1
            # In some order nothing is ever missed: then with the shorter periods ahead, too.
            orders = list(itertools.permutations(zeros))
            if any(never_misses(order) for order in orders):
                self.assertTrue(never_misses([zeros[k] for k in by_periods(zeros)]))
        self.assertGreater(min(met.values()), 15, met)

    def test_dividing_periods(self):
        """[170]: if each period divides the next one, the sum of rungs / period tells it."""
        chance, met = Chance(404), {True: 0, False: 0}
        for _ in range(200):
            period, jobs = 1, []
            for factor in (chance.random.randint(1, 3), 2, chance.random.randint(1, 2), 2):
                period *= factor
                jobs.append((chance.random.randint(1, max(1, period // 4)), period, 0))
            above, below = load(jobs)
            self.told(above <= below, never_misses, jobs)
            met[above <= below] += 1
        self.assertGreater(min(met.values()), 20, met)

    def test_load(self):
        self.told((0, 1), load, ())
        self.told((11, 15), load, ((1, 3, 0), (2, 5, 0)))
        self.told((1, 1), load, ((12, 24, 3), (1, 4, 0), (1, 4, 1)))
        self.told((60, 1), load, ((12, 1, 0),) * 5)
        self.told((2, 3), rows_of_response, ((1, 3, 0), (2, 5, 0)), 1)
        self.told(3, response, ((1, 3, 0), (2, 5, 0)), 1)
        self.told((12,), rows_of_response, ((12, 11, 0),), 0)
        self.told(None, response, ((12, 11, 0),), 0)
        # A response that is the period, and one more.
        self.told((1, 2), rows_of_response, ((1, 2, 0), (1, 2, 0)), 1)
        self.told(2, response, ((1, 2, 0), (1, 2, 1)), 1)
        self.told((2, 3), rows_of_response, ((1, 2, 0), (2, 2, 0)), 1)
        self.told(None, response, ((1, 2, 0), (2, 2, 0)), 1)


NAMES = ("a", "b", "c")


def random_programs(chance, jobs):
    """Each name is written by one task at most; names are read twice now and then."""
    writer = {name: chance.random.randrange(len(jobs)) for name in NAMES}
    told = []
    for k, (rungs, _, _) in enumerate(jobs):
        own = [name for name in NAMES if writer.get(name) == k]
        program = []
        for _ in range(rungs):
            reads = [chance.pick(NAMES + ("in",)) for _ in range(chance.random.randint(1, 3))]
            writes = [chance.pick(own) for _ in range(chance.random.randint(1, 2))] if own else []
            program.append((tuple(reads), tuple(writes)))
        told.append(tuple(program))
    return tuple(told)


class Written:
    """The stretches by the words of [171], for all jobs that come ahead of some tick."""

    def __init__(self, jobs, programs, ticks):
        self.ran = Ticks(jobs, ticks).ran
        self.jobs, self.programs, self.ticks = jobs, programs, ticks
        self.writers = {name: k for k, program in enumerate(programs) for _, writes in program for name in writes}
        self.written = {name: [t for t, k, _, rung in self.ran if name in programs[k][rung][1]] for name in self.writers}

    def stretch(self, place, number):
        told = []
        for t, k, job, rung in self.ran:
            if (k, job) == (place, number):
                for name in self.programs[k][rung][0]:
                    if self.writers.get(name, place) != place:
                        ahead = [w for w in self.written[name] if w < t]
                        behind = [w for w in self.written[name] if w >= t]
                        told.append((name, t, ahead[-1] + 1 if ahead else 0, behind[0]))
        return tuple(told)

    def value(self, name, moment, rules):
        """The bit of a name at a moment, by rules."""
        bit, at = {rule[0]: rule[1:] for rule in rules}.get(name, (0, None))
        written = [w for w in self.written[name] if w < moment]
        if not written:
            return 0
        return 1 - bit if written[-1] == at else bit

    def one_moment(self, place, number):
        reads = self.stretch(place, number)
        for moment in range(self.ticks):
            if all(first <= moment <= last for _, _, first, last in reads):
                return moment
        return None


class TestMoments(Case):
    def cases(self, number, many):
        chance = Chance(number)
        made = 0
        while made < many:
            jobs = [(1, chance.pick((2, 3, 4)), 0), (chance.random.randint(2, 4), chance.pick((6, 8, 12)), 0)]
            jobs += random_jobs(chance, True)[:1]
            jobs = tuple((rungs, period, chance.random.randrange(period)) for rungs, period, _ in jobs)
            if first_miss(jobs) is not None:
                continue
            made += 1
            yield chance, jobs, random_programs(chance, jobs)

    def test_by_chance(self):
        met = {"one": 0, "torn": 0, "late": 0, "same name": 0, "zero": 0}
        for chance, jobs, programs in self.cases(405, 200):
            plain = Written(jobs, programs, 420)
            for place, (_, period, offset) in enumerate(jobs):
                many = (300 - offset) // period
                reads = [plain.stretch(place, number) for number in range(many)]
                for number in (0, 1, 2, many - 1):
                    self.told(reads[number], stretch, jobs, programs, place, number)
                    self.told(plain.one_moment(place, number), one_moment, jobs, programs, place, number)
                apart = [(n, pair) for n, row in enumerate(reads) for pair in itertools.combinations(row, 2)
                         if max(pair[0][2], pair[1][2]) > min(pair[0][3], pair[1][3])]
                self.told(not apart, always_one, jobs, programs, place)
                told = (apart[0][0],) + apart[0][1] if apart else None
                self.told(told, torn, jobs, programs, place)
                self.check_bits(plain, place, self.told(torn_bits(jobs, programs, place), torn_bits, jobs, programs, place),
                                told)
                met["torn" if apart else "one"] += 1
                met["late"] += bool(apart) and apart[0][0] > 0
                met["same name"] += bool(apart) and apart[0][1][0][0] == apart[0][1][1][0]
                met["zero"] += bool(apart) and apart[0][1][0][2] == 0
        self.assertGreater(min(met.values()), 2, met)

    def check_bits(self, plain, place, found, told):
        if told is None:
            self.assertIsNone(found)
            return
        number, rules = found
        self.assertTrue(is_tuples(found))
        self.assertEqual(len({rule[0] for rule in rules}), len(rules))
        for name, bit, tick in rules:
            self.assertIn(bit, (0, 1))
            self.assertTrue(tick is None or tick in plain.written[name])
        reads = plain.stretch(place, number)
        self.assertTrue(reads)
        for moment in range(400):
            same = [plain.value(name, moment, rules) == plain.value(name, tick, rules) for name, tick, _, _ in reads]
            self.assertFalse(all(same))

    def test_example_and_edges(self):
        jobs = ((1, 2, 0), (2, 4, 0))
        programs = (((("i",), ("a", "b")),), ((("a",), ("c",)), (("b", "c"), ())))
        self.told((("a", 1, 1, 2), ("b", 3, 3, 4)), stretch, jobs, programs, 1, 0)
        self.told(None, one_moment, jobs, programs, 1, 0)
        self.told(0, one_moment, jobs, programs, 0, 200)
        self.told((), stretch, jobs, programs, 0, 200)
        self.told((0, ("a", 1, 1, 2), ("b", 3, 3, 4)), torn, jobs, programs, 1)
        lists = [[[["i"], ["a", "b"]]], [[["a"], ["c"]], [["b", "c"], []]]]
        self.told((("a", 801, 801, 802), ("b", 803, 803, 804)), stretch, jobs, lists, 1, 200)
        # A name read twice, once ahead of its first writing.
        jobs = ((2, 4, 0), (1, 4, 3))
        programs = (((("x", "x"), ()), ((), ())), (((), ("x", "x")),))
        self.told((("x", 0, 0, 3), ("x", 0, 0, 3)), stretch, jobs, programs, 0, 0)
        self.told(True, always_one, jobs, programs, 0)
        jobs = ((1, 2, 1), (3, 6, 0))
        programs = (((("q",), ("x",)),), ((("x",), ()), (("x",), ()), ((), ())))
        self.told((("x", 0, 0, 1), ("x", 2, 2, 3)), stretch, jobs, programs, 1, 0)
        self.told((0, ("x", 0, 0, 1), ("x", 2, 2, 3)), torn, jobs, programs, 1)

    def test_long(self):
        """A common period of 5040: the torn job comes late."""
        jobs = ((1, 16, 0), (1, 9, 8), (1, 5, 4), (2, 7, 3))
        programs = (((("p",), ("x",)),), (((), ()),), (((), ()),), ((("x",), ()), (("x", "x"), ())))
        plain = Written(jobs, programs, 5400)
        apart = [n for n in range(720) if plain.one_moment(3, n) is None and n < 700]
        told = torn(jobs, programs, 3)
        self.assertEqual(told[0], apart[0])
        self.told(True, always_one, jobs, programs, 0)

    def test_wrong(self):
        jobs = ((1, 4, 0), (2, 4, 1))
        good = ((((), ("a",)),), ((("a",), ()), ((), ("b",))))
        calls = ((stretch, (None,)), (one_moment, (None,)), (always_one, ()), (torn, ()), (torn_bits, ()))
        wrong_programs = [None, (), good[:1], good + good[:1], (None, good[1]), (good[0], good[1][:1]), "ab",
                          (((),), good[1]), ((((), (), ()),), good[1]), (((None, ()),), good[1]), ((("a", ()),), good[1]),
                          (((("a",), "a"),), good[1]), (good[0], ((("a",), ("a",)), ((), ())))]
        wrong_programs += [((((name,), ()),), good[1]) for name in NO_NAMES]
        wrong_programs += [((((), (name,)),), good[1]) for name in NO_NAMES]
        for call, more in calls:
            for wrong in WRONG_JOBS:
                self.refused(BadNumber, {"word": "jobs"}, call, wrong, None, None, *more)
            self.refused(TooMany, {"limit": 5}, call, ((1, 24, 0),) * 6, None, None, *more)
            for wrong in wrong_programs:
                self.refused(BadNumber, {"word": "programs"}, call, jobs, wrong, None, *more)
            for wrong in PLACES:
                self.refused(BadNumber, {"word": "place"}, call, jobs, good, wrong, *more)
            args = (0,) * len(more)
            self.refused(OtherShape, {}, call, ((2, 1, 0), (2, 4, 1)), (good[1], (((), ()), ((), ()))), 0, *args)
        for call in (stretch, one_moment):
            for wrong in [-1, 201] + NO_NUMBERS:
                self.refused(BadNumber, {"word": "number"}, call, ((1, 1, 0), (2, 4, 1)), good, 0, wrong)


if __name__ == "__main__":
    unittest.main()
