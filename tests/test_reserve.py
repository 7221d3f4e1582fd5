"""Points 46 to 48: reservations, quotes, and reservations in the way."""

import random
import unittest

from gangbooks.clustertext import read_cluster
from gangbooks.errors import BadHour, BadName, Full, NoRoom, Taken, Unknown
from gangbooks.fitting import Shortage, fit
from gangbooks.hours import come, tick
from gangbooks.notes import Certificate, No, Yes, read_note, write_note
from gangbooks.policy import Policy
from gangbooks.reserve import Blockers, NoQuote, Quote, earliest, in_the_way, reserve
from gangbooks.spans import Span
from gangbooks.state import State
from gangbooks.takes import Takes
from tests.support import job, job_notes, refuse, state
from tests.worlds import CALM, random_book

CLUSTER = read_cluster(
    "resources core\nmachine m1 zone y has 4\nmachine m2 zone z has 2\n"
    "group g under - weight 1 floor 0 limit 9\n"
    "template a group g rank 1 every 0 stage 1 of 2 for 2\n"
    "template b group g rank 5 every 2 stage 1 of 2 for 3 stage 2 of 1 for 1 stage 1 of 4 for 2\n"
    "template c group g rank 9 every 1 stage 1 of 4 for 6\n"
    "template d group g rank 1 every 0 stage 1 of 5 for 1\n"
    "template e group g rank 1 every 0 stage 1 of 1 for 1 stage 1 of 5 for 1")
A, B, C, D, E = range(5)
FREE = "age first never free"


class ReserveTestCase(unittest.TestCase):
    def ask(self, call, before, *args):
        """Call a function and look at the state; return what it returns."""
        noted = before.note()
        found = call(before, *args)
        self.assertEqual(before.note(), noted)
        return found

    def refuse(self, kind, subject, call, before, *args):
        noted = before.note()
        error = refuse(self, kind, subject, call, before, *args)
        self.assertEqual(before.note(), noted)
        return error

    def no_room(self, note, call, before, *args):
        with self.assertRaises(NoRoom) as caught:
            self.ask(call, before, *args)
        self.assertIsInstance(caught.exception.subject, Shortage)
        self.assertEqual(caught.exception.subject.note(), note)


class ReserveTest(ReserveTestCase):
    def test_a_later_hour(self):
        after, deeds = self.ask(reserve, state(CLUSTER, FREE, [job("j", C)], hour=3), "r", "b", 5)
        self.assertEqual(deeds, [])
        self.assertIsInstance(deeds, list)
        self.assertEqual(after.note()[6][1], ("r", B, 3, None, 0, 0, None, 1, ((0, 5, (1, 0)), (1, 8, (2, 0)), (2, 9, (1, 0))), 0, 0, 0))
        self.assertEqual([one.name for one in after], ["j", "r"])

    def test_the_present_hour(self):
        after, deeds = self.ask(reserve, state(CLUSTER, FREE, hour=3), "r", "b", 3)
        self.assertEqual(deeds, [("start", "r", (1, 0))])
        self.assertEqual(after.note()[6], (("r", B, 3, 3, 0, 0, (1, 0), 1, ((1, 6, (2, 0)), (2, 7, (1, 0))), 0, 0, 0),))

    def test_the_place_at_the_present_hour_is_that_of_the_first_stage(self):
        after, deeds = self.ask(reserve, state(CLUSTER, FREE, hour=3, windows=((0, 3, 5),)), "r", "b", 3)
        self.assertEqual(deeds, [("start", "r", (0, 1))])
        self.assertEqual((after["r"].place, after["r"].plan), ((0, 1), ((1, 6, (2, 0)), (2, 7, (1, 0)))))

    def test_it_runs_through_its_hours(self):
        now, deeds = reserve(State.empty(CLUSTER, Policy.read(FREE)), "r", "b", 1)
        told = [deeds]
        for _ in range(7):
            now, deeds = tick(now)
            told.append(deeds)
        self.assertEqual(told, [[], [("start", "r", (1, 0))], [], [], [("stage", "r", 1), ("start", "r", (2, 0))],
                                [("stage", "r", 2), ("start", "r", (1, 0))], [], [("end", "r", 6, 0, 0)]])

    def test_the_settling_follows(self):
        # A job that waits does not start by a reservation, but one may start beside it.
        before = State(CLUSTER, Policy.read(FREE), 0, (), (), (), [job("j", A)])
        after, deeds = self.ask(reserve, before, "r", "c", 0)
        self.assertEqual(deeds, [("start", "r", (1, 0)), ("start", "j", (0, 1))])

    def test_it_evicts_nobody(self):
        before = state(CLUSTER, "rank first any free", [job("j", A, (1, 0))])
        self.no_room(("shortage", (C, 0), 0, 6, ((0, 0), (0, 0))), reserve, before, "r", "c", 0)
        self.no_room(("shortage", (C, 0), 1, 7, ((0, 0), (0, 0))), reserve, before, "r", "c", 1)
        after, deeds = self.ask(reserve, before, "r", "c", 2)
        self.assertEqual((deeds, after["r"].plan), ([], ((0, 2, (1, 0)),)))

    def test_loose_jobs_that_start_later_respect_it(self):
        after, _ = reserve(State.empty(CLUSTER, Policy.read("rank first any free")), "r", "c", 1)
        after, deeds = self.ask(come, after, "j", "a")
        self.assertEqual(deeds, [("start", "j", (0, 1))])
        after, deeds = self.ask(come, after, "k", "c")
        self.assertEqual(deeds, [])

    def test_other_reservations_and_windows_count(self):
        firm = job("f", A, firm=True, plan=((0, 6, (1, 0)),))
        for windows, hour, wanted in (((), 5, (0, 1)), (((1, 5, 6),), 5, None), (((1, 7, 8),), 5, (0, 1)), ((), 8, (1, 0))):
            before = state(CLUSTER, FREE, [firm, job("h", A, firm=True, plan=((0, 5, (1, 0)),))], hour=4, windows=windows)
            if wanted is None:
                self.no_room(("shortage", (A, 0), 5, 7, ((0, 0), (0, 0))), reserve, before, "r", "a", hour)
            else:
                self.assertEqual(self.ask(reserve, before, "r", "a", hour)[0]["r"].plan, ((0, hour, wanted),))

    def test_down_and_shut_machines_are_barred(self):
        self.assertEqual(self.ask(reserve, state(CLUSTER, FREE, shut=(0,)), "r", "a", 3)[0]["r"].plan, ((0, 3, (0, 1)),))
        self.assertEqual(self.ask(reserve, state(CLUSTER, FREE, down=(0,)), "r", "a", 3)[0]["r"].plan, ((0, 3, (0, 1)),))
        self.no_room(("shortage", (A, 0), 3, 5, ((0, "barred"), (0, "barred"))), reserve, state(CLUSTER, FREE, down=(0,), shut=(1,)), "r", "a", 3)

    def test_the_word_place(self):
        for place, counts in (("first", (1, 0)), ("tight", (0, 1)), ("loose", (1, 0))):
            self.assertEqual(self.ask(reserve, state(CLUSTER, f"age {place} never free"), "r", "a", 3)[0]["r"].plan, ((0, 3, counts),))

    def test_limits_do_not_matter(self):
        made = read_cluster("resources core\nmachine m1 zone y has 4\ngroup g under - weight 1 floor 0 limit 1\n"
                            "template a group g rank 1 every 0 stage 1 of 2 for 2")
        self.assertEqual(reserve(State.empty(made, Policy.read(FREE)), "r", "a", 0)[1], [("start", "r", (1,))])

    def test_the_first_shortage(self):
        self.no_room(("shortage", (E, 1), 4, 5, ((0, 0), (0, 0))), reserve, state(CLUSTER, FREE), "r", "e", 3)
        self.no_room(("shortage", (B, 0), 3, 6, ((0, 0), (0, 0))), reserve, state(CLUSTER, FREE, windows=((0, 3, 5), (1, 5, 8))), "r", "b", 3)
        self.no_room(("shortage", (B, 1), 6, 7, ((0, 0), (0, 0))), reserve, state(CLUSTER, FREE, windows=((0, 6, 8), (1, 5, 8))), "r", "b", 3)
        self.no_room(("shortage", (B, 2), 7, 9, ((0, 0), (0, 0))), reserve, state(CLUSTER, FREE, windows=((0, 8, 9),)), "r", "b", 3)

    def test_hours(self):
        before = state(CLUSTER, FREE, hour=10)
        for hour in (10, 11, 210):
            self.assertEqual(self.ask(reserve, before, "r", "a", hour)[0]["r"].firm, True)
        for hour in (9, 0, -1, 211, 100000):
            self.refuse(BadHour, hour, reserve, before, "r", "a", hour)

    def test_the_order_of_the_errors(self):
        full = state(CLUSTER, FREE, [job(f"j{at}", C) for at in range(12)], hour=5)
        self.refuse(BadName, "R", reserve, full, "R", "x", 0)
        self.refuse(Taken, "j1", reserve, full, "j1", "x", 0)
        self.refuse(Unknown, "x", reserve, full, "r", "x", 0)
        self.refuse(Full, 12, reserve, full, "r", "d", 0)
        self.refuse(BadHour, 4, reserve, state(CLUSTER, FREE, hour=5), "r", "d", 4)
        self.no_room(("shortage", (D, 0), 5, 6, ((0, 0), (0, 0))), reserve, state(CLUSTER, FREE, hour=5), "r", "d", 5)


class EarliestTest(ReserveTestCase):
    def quote(self, found, hour, places, refusals):
        self.assertIsInstance(found, Quote)
        self.assertEqual((found.hour, found.places, found.refusals), (hour, places, refusals))

    def test_the_first_hour(self):
        found = self.ask(earliest, state(CLUSTER, FREE, hour=4), "b", 4)
        self.quote(found, 4, ((1, 0), (2, 0), (1, 0)), ())
        self.assertEqual(found.template, B)
        self.quote(self.ask(earliest, state(CLUSTER, FREE, hour=4), "b", 9), 9, ((1, 0), (2, 0), (1, 0)), ())

    def test_a_later_hour(self):
        before = state(CLUSTER, FREE, [job("j", A, (1, 0))], hour=4, windows=((0, 9, 10),))
        full = ((0, 0), (0, 0))
        self.quote(self.ask(earliest, before, "c", 4), 10, ((1, 0),), tuple((hour, 0, full) for hour in range(4, 10)))
        self.quote(self.ask(earliest, before, "c", 8), 10, ((1, 0),), ((8, 0, full), (9, 0, full)))

    def test_the_first_stage_without_a_placing(self):
        before = state(CLUSTER, FREE, windows=((0, 3, 5), (1, 0, 4)))
        # b takes hours 0 to 2, 3, and 4 to 5 if it starts at hour 0.
        full = ((0, 0), (0, 0))
        self.quote(self.ask(earliest, before, "b", 0), 4, ((0, 1), (2, 0), (1, 0)), ((0, 1, full), (1, 0, full), (2, 0, full), (3, 0, full)))

    def test_none(self):
        found = self.ask(earliest, state(CLUSTER, FREE, hour=4), "d", 6)
        self.assertIsInstance(found, NoQuote)
        self.assertEqual((found.template, found.refusals), (D, ((6, 0, ((0, 0), (0, 0))),)))
        # Up to the greatest end, that hour included.
        found = self.ask(earliest, state(CLUSTER, FREE, [job("j", A, (1, 0))], hour=4, windows=((1, 7, 8),)), "e", 5)
        self.assertEqual([row[0] for row in found.refusals], [5, 6, 7, 8])
        self.assertEqual([row[1] for row in found.refusals], [1, 1, 1, 1])
        found = self.ask(earliest, state(CLUSTER, FREE, windows=((1, 7, 8),)), "d", 8)
        self.assertEqual([row[0] for row in found.refusals], [8])
        found = self.ask(earliest, state(CLUSTER, FREE, windows=((1, 7, 8),)), "d", 9)
        self.assertEqual([row[0] for row in found.refusals], [9])

    def test_room_only_behind_the_last_end(self):
        self.quote(self.ask(earliest, state(CLUSTER, FREE, windows=((0, 2, 4),)), "c", 3), 4, ((1, 0),), ((3, 0, ((0, 0), (0, 0))),))

    def test_an_hour_later_than_200_from_now(self):
        firm = [job(f"f{at}", C, firm=True, plan=((0, 198 + 6 * at, (1, 0)),)) for at in range(2)]
        found = self.ask(earliest, state(CLUSTER, FREE, firm), "c", 200)
        self.assertEqual((found.hour, len(found.refusals)), (210, 10))

    def test_the_number_of_jobs_does_not_matter(self):
        full = state(CLUSTER, FREE, [job(f"j{at}", C) for at in range(12)])
        self.quote(self.ask(earliest, full, "a", 0), 0, ((1, 0),), ())

    def test_barred_machines_and_the_word_place(self):
        self.quote(self.ask(earliest, state(CLUSTER, "age tight never free"), "a", 0), 0, ((0, 1),), ())
        self.quote(self.ask(earliest, state(CLUSTER, FREE, shut=(0,)), "a", 0), 0, ((0, 1),), ())
        found = self.ask(earliest, state(CLUSTER, FREE, down=(0,), shut=(1,)), "a", 0)
        self.assertEqual(found.refusals, ((0, 0, ((0, "barred"), (0, "barred"))),))

    def test_errors(self):
        before = state(CLUSTER, FREE, hour=10)
        self.refuse(Unknown, "x", earliest, before, "x", 9)
        for hour in (9, 211, -1):
            self.refuse(BadHour, hour, earliest, before, "a", hour)
        self.assertEqual(self.ask(earliest, before, "a", 210).hour, 210)

    def test_random_states(self):
        """The hour of a quote is the first at which a reservation is not refused."""
        for seed in range(40):
            dice = random.Random(seed)
            for _, _, after, _ in list(random_book(dice, 25, CALM))[-2:]:
                if len(after) == 12:
                    continue
                template = dice.choice(after.cluster.templates)
                start = after.hour + dice.randrange(3)
                found = self.ask(earliest, after, template.name, start)
                hours = [row[0] for row in found.refusals]
                for hour, stage, rows in found.refusals:
                    with self.assertRaises(NoRoom) as caught:
                        reserve(after, "new", template.name, hour)
                    self.assertEqual((caught.exception.subject.gang[1], caught.exception.subject.rows), (stage, rows))
                if isinstance(found, Quote):
                    hours.append(found.hour)
                    job_of = reserve(after, "new", template.name, found.hour)[0]["new"]
                    places = [row[2] for row in job_of.plan] if job_of.place is None else [job_of.place, *[row[2] for row in job_of.plan]]
                    self.assertEqual(found.places, tuple(places))
                else:
                    self.assertEqual(hours[-1], max([start, *after.takes().ends()]))
                self.assertEqual(hours, list(range(start, start + len(hours))))


class InTheWayTest(ReserveTestCase):
    def firm(self, name, counts, hour=4, template=A):
        return job(name, template, firm=True, plan=((0, hour, counts),))

    def test_none_is_in_the_way(self):
        found = self.ask(in_the_way, state(CLUSTER, FREE, [self.firm("f", (0, 1))]), "c", 4)
        self.assertIsInstance(found, Blockers)
        self.assertEqual((found.template, found.hour, found.rows), (C, 4, ()))

    def test_each_that_is_not_kept(self):
        jobs = [self.firm("f", (1, 0)), self.firm("h", (0, 1)), self.firm("i", (1, 0)), self.firm("k", (1, 0), 20)]
        found = self.ask(in_the_way, state(CLUSTER, FREE, jobs), "c", 3)
        self.assertEqual(found.rows, (("f", 0, ((0, 0), (0, 0))), ("i", 0, ((0, 0), (0, 0)))))
        # For a gang of 2 the first two are kept.
        found = self.ask(in_the_way, state(CLUSTER, FREE, jobs), "a", 3)
        self.assertEqual(found.rows, (("i", 0, ((0, 0), (0, 0))),))

    def test_the_first_stage_without_a_placing(self):
        jobs = [self.firm("f", (1, 0), 8)]
        found = self.ask(in_the_way, state(CLUSTER, FREE, jobs), "b", 3)
        self.assertEqual(found.rows, (("f", 2, ((0, 0), (0, 0))),))

    def test_jobs_that_are_not_gone_through(self):
        # Loose jobs, firm jobs that run, and firm jobs behind their first stage are not given up.
        others = [job("j", A, (1, 0)), job("f", A, (1, 0), firm=True), job("h", B, firm=True, stage=2, plan=((2, 4, (1, 0)),)),
                  job("i", B, (1, 0), firm=True, plan=((1, 3, (2, 0)), (2, 4, (1, 0))))]
        for other, hour in ((others[0], 1), (others[1], 1), (others[2], 3), (others[3], 4)):
            found = self.ask(in_the_way, state(CLUSTER, FREE, [self.firm("k", (0, 1)), other]), "c", hour)
            self.assertIsInstance(found, Shortage)
            self.assertEqual(found.note(), ("shortage", (C, 0), hour, hour + 6, ((0, 0), (0, 0))))

    def test_all_stages_of_a_plan_count(self):
        plan = ((0, 10, (0, 1)), (1, 13, (0, 2)), (2, 14, (1, 0)))
        found = self.ask(in_the_way, state(CLUSTER, FREE, [job("f", B, firm=True, plan=plan)]), "c", 9)
        self.assertEqual(found.rows, (("f", 0, ((0, 0), (0, 0))),))
        found = self.ask(in_the_way, state(CLUSTER, FREE, [job("f", B, firm=True, plan=plan)]), "c", 8)
        self.assertEqual(found.rows, ())

    def test_no_place_even_without_all(self):
        found = self.ask(in_the_way, state(CLUSTER, FREE, [self.firm("f", (1, 0))], windows=((0, 4, 5),)), "c", 3)
        self.assertEqual(found.note(), ("shortage", (C, 0), 3, 9, ((0, 0), (0, 0))))
        found = self.ask(in_the_way, state(CLUSTER, FREE), "e", 3)
        self.assertEqual(found.note(), ("shortage", (E, 1), 4, 5, ((0, 0), (0, 0))))
        found = self.ask(in_the_way, state(CLUSTER, FREE, [self.firm("f", (1, 0))], shut=(0,), down=(1,)), "a", 3)
        self.assertEqual(found.rows, ((0, "barred"), (0, "barred")))

    def test_a_younger_one_that_would_be_kept_alone(self):
        jobs = [self.firm("f", (1, 0)), self.firm("h", (1, 0)), self.firm("i", (0, 1))]
        for order in ((0, 1, 2), (2, 1, 0), (1, 2, 0)):
            found = self.ask(in_the_way, state(CLUSTER, FREE, [jobs[at] for at in order]), "a", 4)
            self.assertEqual([row[0] for row in found.rows], [jobs[order[2]].name])

    def test_errors(self):
        before = state(CLUSTER, FREE, hour=10)
        self.refuse(Unknown, "x", in_the_way, before, "x", 9)
        for hour in (9, 211):
            self.refuse(BadHour, hour, in_the_way, before, "d", hour)
        full = state(CLUSTER, FREE, [job(f"j{at}", C) for at in range(12)])
        self.assertEqual(self.ask(in_the_way, full, "a", 200).rows, ())

    def test_random_states(self):
        """Without the jobs of the rows the reservation has its places; with one more of them, in turn, it has not."""
        met = 0
        for seed in range(60):
            dice = random.Random(seed)
            for _, _, after, _ in list(random_book(dice, 25, ("reserve",) * 6 + CALM))[-2:]:
                template = dice.choice(after.cluster.templates)
                hour = after.hour + dice.randrange(4)
                found = self.ask(in_the_way, after, template.name, hour)
                if isinstance(found, Blockers):
                    out = [row[0] for row in found.rows]
                    for name, stage, rows in found.rows:
                        kept = [one for one in after if one.name not in out or one.name == name]
                        kept = [one for one in kept if one.name == name or not waits_first(one) or older(after, one.name, name)]
                        self.assertEqual(first_shortage(after, kept, template, hour), (stage, rows))
                        met += 1
                    self.assertIsNone(first_shortage(after, [one for one in after if one.name not in out], template, hour))
                else:
                    kept = [one for one in after if not waits_first(one)]
                    self.assertEqual(first_shortage(after, kept, template, hour), (found.gang[1], found.rows))
        self.assertGreater(met, 10)


def waits_first(one):
    return one.firm and one.stage == 0 and one.place is None


def older(made, name, other):
    names = [one.name for one in made]
    return names.index(name) < names.index(other)


def first_shortage(made, jobs, template, hour):
    """The first stage without a placing beside these jobs, with its rows, or None."""
    takes = State(made.cluster, made.policy, made.hour, made.down, made.shut, made.windows, jobs).takes()
    for at, stage in enumerate(template.stages):
        gang = (made.cluster.template_index(template.name), at)
        found = fit(Takes(made.cluster, list(takes)), gang, Span(hour, hour + stage.hours), "first", made.down + made.shut)
        if isinstance(found, Shortage):
            return at, found.rows
        hour += stage.hours
    return None


class CertificateTest(unittest.TestCase):
    def test_notes(self):
        before = state(CLUSTER, FREE, [job("f", A, firm=True, plan=((0, 1, (1, 0)),))])
        quote, blockers = earliest(before, "c", 2), in_the_way(before, "c", 2)
        full = ((0, 0), (0, 0))
        self.assertEqual(quote.note(), ("quote", C, 3, ((1, 0),), ((2, 0, full),)))
        self.assertEqual(earliest(before, "d", 3).note(), ("no-quote", D, ((3, 0, full),)))
        self.assertEqual(blockers.note(), ("blockers", C, 2, (("f", 0, full),)))
        for made in (quote, blockers, earliest(before, "d", 3)):
            self.assertEqual(read_note(write_note(made.note())), made.note())

    def test_kinds(self):
        for kind, word, other, made in ((Quote, Yes, No, Quote(0, 0, (), ())), (NoQuote, No, Yes, NoQuote(0, ())), (Blockers, Yes, No, Blockers(0, 0, ()))):
            self.assertTrue(issubclass(kind, Certificate) and issubclass(kind, word) and not issubclass(kind, other))
            self.assertIs(made.holds(), word is Yes)

    def test_arguments_are_stored_as_they_are(self):
        made = Quote(7, -3, ((1,), "x"), (5,))
        self.assertEqual((made.template, made.hour, made.places, made.refusals), (7, -3, ((1,), "x"), (5,)))
        self.assertEqual(made.note(), ("quote", 7, -3, ((1,), "x"), (5,)))
        made = NoQuote(7, (5,))
        self.assertEqual((made.template, made.refusals, made.note()), (7, (5,), ("no-quote", 7, (5,))))
        made = Blockers(7, -3, (5,))
        self.assertEqual((made.template, made.hour, made.rows, made.note()), (7, -3, (5,), ("blockers", 7, -3, (5,))))


if __name__ == "__main__":
    unittest.main()
