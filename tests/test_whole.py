"""What the document promises of all states and all books: points 2, 3, 41, 51, 54, 57, 66 and 74."""

import itertools
import random
import unittest

from gangbooks.books import Book
from gangbooks.certificates import certificate_text, read_certificate
from gangbooks.cluster import Cluster
from gangbooks.clustertext import read_cluster
from gangbooks.errors import GangError, TooWide
from gangbooks.events import event_line, full_step, read_event
from gangbooks.failing import failing_step, survives
from gangbooks.hours import basic_step, change
from gangbooks.keeper import Keeper
from gangbooks.menus import Menu, explore
from gangbooks.moving import drain
from gangbooks.pairs import PairTable, alike, never_later
from gangbooks.policy import Policy, all_policies
from gangbooks.promises import Begins, Ends, Floor, Reserved, Stays, judge
from gangbooks.settle import settle
from gangbooks.shapes import shape, state_of
from gangbooks.state import State
from gangbooks.takes import Takes
from gangbooks.usage import owed, used_by
from gangbooks.waits import longest_wait
from tests.worlds import CALM, POLICIES, ROUGH, last_state, random_book, random_cluster, random_event

TICK = ("tick",)
# Two groups with floors and a limit, a gang that needs both machines, stages, checkpoints and foes.
SMALL = read_cluster(
    "resources core\nmachine m1 zone y has 2 labels x\nmachine m2 zone z has 2\n"
    "group lab under - weight 2 floor 2\ngroup one under lab weight 1 floor 1\ngroup two under lab weight 1 floor 0 limit 2\n"
    "group pub under - weight 1 floor 1 limit 3\n"
    "template a group one rank 1 every 0 stage 1 of 2 for 2 wishes likes:x\n"
    "template b group two rank 5 every 1 stage 1 of 1 for 1 stage 2 of 1 for 1 wishes apart\n"
    "template p group pub rank 3 every 0 stage 3 of 1 for 2 wishes never:b")


def gang(job):
    return job.template, job.stage


def settled_states(dice, books, words, many=10):
    """The states behind the events of random books."""
    for _ in range(books):
        for _, _, now, _ in random_book(dice, many, words):
            yield now


class SettledTest(unittest.TestCase):
    """Point 41."""

    def check_settled(self, now):
        again = settle(now)
        self.assertEqual(again.deeds, ())
        self.assertEqual(again.after.note(), now.note())
        self.assertIsNone(now.takes().overfull())
        used = used_by(now.cluster, [gang(job) for job in now if not job.firm and job.place])
        for group, amounts in zip(now.cluster.groups, used):
            self.assertTrue(group.limit is None or amounts in group.limit)
        reasons = {row[1]: row[0] for row in again.rows}
        for job in now:
            if not job.firm:
                self.assertEqual(reasons[job.name] == "stays", job.place is not None)
                self.assertIn(reasons[job.name], ("stays",) if job.place else ("limit", "behind", "rooms"))
        self.assertLessEqual(len(now), 12)
        self.assertTrue(all(start < end and end > now.hour for _, start, end in now.windows))
        for job in now:
            self.assertTrue(all(start > now.hour for _, start, _ in job.plan))
            self.assertTrue(job.firm or job.plan == ())

    def check_owed(self, now, settlement):
        """Check that an owed job with the row rooms was tried behind owed jobs alone, with fill free."""
        if now.policy.fill != "free" or now.policy.evict == "never" or (now.policy.evict == "any" and now.policy.order != "share"):
            return 0
        accepted, strange, found = [], False, 0
        for word, name, *_ in settlement.rows:
            if word == "clash":
                continue
            is_owed = owed(now.cluster, used_by(now.cluster, accepted), gang(now[name]))
            if word == "rooms" and is_owed:
                self.assertFalse(strange)
                found += 1
            if word in ("stays", "starts"):
                accepted.append(gang(now[name]))
                strange = strange or not is_owed
        return found

    def check_hold(self, now, settlement):
        """Check that the job with a hold gets the same one in a second settling; return whether there is one."""
        if settlement.hold is None:
            return False
        self.assertEqual((now.policy.fill, now.policy.evict in ("never", "owed")), ("hold", True))
        self.assertEqual(settle(settlement.after).hold, settlement.hold)
        return True

    def test_all_books_of_menus_on_a_small_cluster(self):
        for at, policy in enumerate(all_policies()):
            menu = Menu("ab"[at % 2], "p", many=2 + (at % 7 == 0), early=at % 3 == 0, drops=at % 4 == 0, failures=int(at % 5 == 0))
            states = itertools.islice(explore(State.empty(SMALL, policy), menu, failing_step, most=10000), 60)
            for _, now in states:
                self.check_settled(now)

    def test_random_books(self):
        dice = random.Random(41)
        for now in settled_states(dice, 60, ROUGH):
            self.check_settled(now)

    def test_owed_jobs_and_holds(self):
        dice = random.Random(42)
        found = holds = 0
        for now in settled_states(dice, 60, ROUGH):
            for policy in dice.sample(POLICIES, 6):
                raw = State(now.cluster, policy, now.hour, now.down, now.shut, now.windows, now.jobs)
                settlement = settle(raw)
                found += self.check_owed(raw, settlement)
                holds += self.check_hold(raw, settlement)
                self.check_settled(settlement.after)
        self.assertGreater(found, 20)
        self.assertGreater(holds, 20)


class ReservationsTest(unittest.TestCase):
    """Point 51."""

    def test_books_without_failures(self):
        dice = random.Random(51)
        started = 0
        for _ in range(150):
            asked = {}
            for before, event, now, deeds in random_book(dice, 14, CALM + ("tick",) * 4):
                if event[0] == "reserve":
                    asked[event[1]] = event[3]
                if event[0] == "drop":
                    asked.pop(event[1], None)
                for deed in deeds:
                    self.assertNotIn(deed[0], ("lost", "broken"))
                    if deed[0] == "out":
                        self.assertFalse(before[deed[1]].firm if deed[1] in before else event[0] == "reserve")
                for name, hour in list(asked.items()):
                    if name in now:
                        self.assertTrue(now[name].firm)
                        self.assertEqual(now[name].began, hour if now.hour >= hour else None)
                    if now.hour >= hour:
                        if now.hour == hour:
                            started += 1
                        del asked[name]
        self.assertGreater(started, 60)

    def test_all_short_books(self):
        """Each book of four events of some on a small cluster, with reservations, windows and upkeep."""
        events = (("reserve", "r", "a", 1), ("reserve", "s", "b", 2), ("come", "j", "p"), ("close", "m1", 1, 1), ("shut", "m2"), ("drain", "m1"), TICK)
        for words in ("share first any free", "age loose owed hold"):
            layer = [(State.empty(SMALL, Policy.read(words)), {})]
            for _ in range(4):
                behind = []
                for now, asked in layer:
                    for event in events:
                        try:
                            after, deeds = full_step(now, event)
                        except GangError:
                            continue
                        told = {**asked, event[1]: event[3]} if event[0] == "reserve" else asked
                        self.assertFalse([deed for deed in deeds if deed[0] == "out" and deed[1] in told])
                        for name, hour in told.items():
                            if name in after:
                                self.assertEqual(after[name].began, hour if after.hour >= hour else None)
                        behind.append((after, told))
                layer = behind
            self.assertGreater(len(layer), 200)


class FailuresTest(unittest.TestCase):
    """Points 54 and 57."""

    def breaks(self, now, machines):
        """Tell whether these machines, failing one right after the other, give a deed broken."""
        found = False
        for at in machines:
            now, deeds = full_step(now, ("fail", now.cluster.machines[at].name))
            found = found or "broken" in [deed[0] for deed in deeds]
        return found

    def test_survival_is_about_the_failures_themselves(self):
        dice = random.Random(54)
        counts = {}
        words = CALM + ("reserve",) * 8 + ("fail",)
        while min(counts.get((failures, holds), 0) for failures in (1, 2) for holds in (True, False)) < 15:
            now = last_state(dice, 10, words, wide=True)
            failures = dice.choice([1, 2])
            uses_shut = any(counts[at] for job in now for _, _, counts in job.plan for at in now.shut)
            if not any(job.plan for job in now) or (failures > 1 and uses_shut):
                continue
            try:
                found = survives(now, failures)
                up = [at for at in range(len(now.cluster.machines)) if at not in now.down]
                rows = [row for size in range(1, failures + 1) for row in itertools.permutations(up, size)]
                broken = {row: self.breaks(now, row) for row in rows}
            except TooWide:
                continue
            counts[failures, found.holds()] = counts.get((failures, found.holds()), 0) + 1
            self.assertIs(found.holds(), not any(broken.values()))
            if not found.holds():
                self.assertTrue(all(broken[row] for row in itertools.permutations(found.machines)))

    def test_a_machine_that_is_drained_may_fail(self):
        dice = random.Random(57)
        drained = 0
        for now in settled_states(dice, 60, CALM):
            for machine in now.cluster.machines:
                try:
                    after, deeds = drain(now, machine.name)
                except GangError:
                    continue
                drained += "move" in [deed[0] for deed in deeds]
                self.assertNotIn("lost", [deed[0] for deed in deeds])
                failed, first = full_step(after, ("fail", machine.name))
                again, second = full_step(failed, ("repair", machine.name))
                self.assertEqual([deed[0] for deed in first + second], ["fail", "repair"])
                self.assertEqual(again.note(), after.note())
        self.assertGreater(drained, 20)


def without_names(now, deeds, event):
    """The deeds with the index of each job in its place, and without ran, lost and evicted."""
    order = [job.name for job in now] + ([event[1]] if event[0] in ("come", "reserve") else [])
    rows = []
    for deed in deeds:
        numbered = deed[1] if deed[0] in ("fail", "repair", "shut", "reopen", "back", "away") else order.index(deed[1])
        rows.append((deed[0], numbered) if deed[0] in ("end", "drop") else (deed[0], numbered, *deed[2:]))
    return rows


def shifted(rows, hours):
    """Rows of deeds whose plans are counted from another hour."""
    return [(*row[:2], tuple((stage, start - hours, counts) for stage, start, counts in row[2])) if row[0] == "plan" else row for row in rows]


class ShapesTest(unittest.TestCase):
    """Point 66."""

    def pair(self, now, event):
        """The same event for the state of the shape of a state."""
        names = {job.name: f"x{at}" for at, job in enumerate(now, start=1)}
        hours = {"reserve": 3, "close": 2, "cancel": 2}
        strange = "new" if event[0] in ("come", "reserve") else event[1] if len(event) > 1 else None
        items = [names.get(item, strange) if at == 1 else item for at, item in enumerate(event)]
        if event[0] in hours:
            items[hours[event[0]]] -= now.hour
        return tuple(items)

    def test_the_same_shape_has_the_same_future(self):
        dice = random.Random(66)
        counts = {"done": 0, "refused": 0}
        for now in settled_states(dice, 50, ROUGH):
            other = state_of(now.cluster, shape(now))
            self.assertEqual(shape(other), shape(now))
            self.assertEqual((other.hour, [job.came for job in other]), (0, [0] * len(now)))
            for _ in range(6):
                event = random_event(dice, now, ROUGH)
                mine = self.pair(now, event)
                try:
                    after, deeds = full_step(now, event)
                except GangError as e:
                    counts["refused"] += 1
                    with self.assertRaises(type(e)):
                        full_step(other, mine)
                    continue
                counts["done"] += 1
                new, others = full_step(other, mine)
                self.assertEqual(shape(new), shape(after))
                self.assertEqual(shifted(without_names(other, others, mine), 0), shifted(without_names(now, deeds, event), now.hour))
        self.assertGreater(min(counts.values()), 200)

    def test_menus_and_answers_go_by_the_shape(self):
        dice = random.Random(67)
        for now in settled_states(dice, 10, CALM, 5):
            other = state_of(now.cluster, shape(now))
            menu = Menu(now.cluster.templates[0].name, many=min(12, len(now) + 1))
            self.assertEqual(self.answer(now, menu), self.answer(other, menu))

    def answer(self, now, menu):
        try:
            return {one for one, _ in explore(now, menu, basic_step, most=40)}
        except TooWide:
            return None


class AlikeTest(unittest.TestCase):
    """Point 74."""

    def promises(self, now):
        for job in now:
            yield from (Begins(job.name, 1), Begins(job.name, 3), Ends(job.name, 3), Stays(job.name), Reserved(job.name))
        yield from (Floor(group.name) for group in now.cluster.groups if group.parent is None)

    def wait(self, now, menu, template):
        found = longest_wait(now, menu, template, failing_step, most=400)
        return found.hours if found.holds() else None

    def test_policies_that_act_alike(self):
        dice = random.Random(74)
        tried = promised = 0
        while tried < 40:
            now = last_state(dice, 5, CALM)
            policy = dice.choice(POLICIES)
            menu = Menu(*[one.name for one in now.cluster.templates][:dice.randrange(1, 3)], many=max(1, min(12, len(now) + dice.randrange(2))),
                        failures=dice.choice([0, 0, 1]), early=dice.random() < 0.3, drops=dice.random() < 0.3)
            try:
                self.assertIs(type(alike(now, now.policy, menu, failing_step, most=150)), PairTable)
                if not alike(now, policy, menu, failing_step, most=150).holds():
                    continue
                other, _ = change(now, policy)
                tried += 1
                self.assertTrue(never_later(now, policy, menu, failing_step, most=400).holds())
                self.assertTrue(never_later(other, now.policy, menu, failing_step, most=400).holds())
                for template in menu.templates:
                    self.assertEqual(self.wait(now, menu, template), self.wait(other, menu, template))
                for promise in self.promises(now):
                    promised += 1
                    self.assertIs(judge(now, menu, promise, failing_step).holds(), judge(other, menu, promise, failing_step).holds())
            except TooWide:
                continue
        self.assertGreater(promised, 100)


class ValuesTest(unittest.TestCase):
    """Points 2 and 3."""

    def test_states_do_not_change(self):
        dice = random.Random(2)
        for before, event, now, deeds in [row for _ in range(40) for row in random_book(dice, 10, ROUGH)]:
            text, told = before.text(), now.text()
            again, others = full_step(before, event)
            self.assertEqual((again.text(), others, before.text()), (told, deeds, text))
            others.clear()
            self.assertEqual(full_step(before, event)[1], deeds)

    def test_refused_events_change_nothing(self):
        dice = random.Random(3)
        refused = 0
        for now in settled_states(dice, 30, ROUGH):
            text = now.text()
            for _ in range(5):
                event = random_event(dice, now, ROUGH)
                try:
                    full_step(now, event)
                except GangError as e:
                    refused += 1
                    self.assertTrue(hasattr(e, "subject"))
                    self.assertEqual(vars(e), {"subject": e.subject})
                self.assertEqual(now.text(), text)
        self.assertGreater(refused, 100)

    def test_lists_that_are_passed_in_are_copied(self):
        events = [TICK]
        book = Book(events)
        events.append(TICK)
        self.assertEqual(len(book), 1)
        rows = [(0, 0, 1, (1,), 0)]
        takes = Takes(SMALL, rows)
        rows.clear()
        self.assertEqual(len(list(takes)), 1)
        entries = SMALL.entries()
        made = Cluster(*entries)
        for part in entries:
            part.clear()
        self.assertEqual(made, SMALL)

    def test_lists_that_are_returned_are_new(self):
        keeper = Keeper(State.empty(SMALL, Policy.read("age first any free")), full_step)
        keeper.enter(("come", "j", "a")).clear()
        keeper.would(TICK)[0].clear()
        self.assertEqual([deeds for _, deeds in keeper], [(("start", "j", (1, 0)),)])
        menu = Menu("a")
        menu(keeper.state).clear()
        self.assertEqual(len(menu(keeper.state)), 2)
        verdict = judge(keeper.state, menu, Stays("j"), basic_step)
        verdict.lines().clear()
        self.assertEqual(verdict.lines(), ["kept stays j"])

    def test_whole_books_can_be_kept_and_read_again(self):
        dice = random.Random(60)
        for _ in range(20):
            rows = list(random_book(dice, 12, ROUGH))
            if rows:
                book = Book([event for _, event, _, _ in rows])
                again = Keeper.replay(rows[0][0], full_step, Book.read(book.text()))
                self.assertEqual(again.state.text(), rows[-1][2].text())
                self.assertEqual(again.entered, book)
                self.assertEqual([read_event(event_line(event)) for event in book], list(book))

    def test_certificates_of_whole_books_are_read_again(self):
        dice = random.Random(75)
        for now in settled_states(dice, 10, CALM, 6):
            menu = Menu(now.cluster.templates[0].name, many=max(1, len(now)), drops=True)
            try:
                found = longest_wait(now, menu, menu.templates[0], basic_step, most=60)
            except TooWide:
                continue
            self.assertEqual(read_certificate(certificate_text(found)).note(), found.note())


if __name__ == "__main__":
    unittest.main()
