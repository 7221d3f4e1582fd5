"""Point 65: the tables of machines and jobs."""

import random
import unittest

from gangbooks.clustertext import read_cluster
from gangbooks.spans import Span
from gangbooks.tables import job_lines, machine_lines
from tests.support import job, state
from tests.worlds import ROUGH, random_book

CLUSTER = read_cluster(
    "resources core mem\nmachine m1 zone y has 4 9999\nmachine longname zone z has 2 8\nmachine x zone z has 9 0\n"
    "group g under - weight 1 floor 0 0\n"
    "template a group g rank 1 every 0 stage 1 of 2 3 for 12\n"
    "template template group g rank 1 every 0 stage 3 of 1 0 for 24 stage 2 of 1 2 for 3")
FREE = "age first never free"


class MachineLinesTest(unittest.TestCase):
    def test_column_by_column(self):
        jobs = [job("i", 0, (1, 0, 0)), job("j", 1, (0, 1, 2)), job("k", 0), job("f", 1, (2, 0, 0), firm=True, stage=1)]
        lines = machine_lines(state(CLUSTER, FREE, jobs, hour=3))
        self.assertEqual(lines, [
            "m1       up        4     4     7  9999",
            "longname up        1     2     0     8",
            "x        up        2     9     0     0"])
        for line in lines:
            self.assertEqual((len(line), line[9:14].strip()), (9 + 5 + 4 * 6, "up"))

    def test_nothing_is_used(self):
        found = machine_lines(state(CLUSTER, FREE))
        self.assertIsInstance(found, list)
        self.assertEqual(found[0], "m1       up        0     4     0  9999")

    def test_down_and_shut(self):
        lines = machine_lines(state(CLUSTER, FREE, down=(0, 1), shut=(1, 2)))
        self.assertEqual([line[:14] for line in lines], ["m1       down ", "longname down ", "x        shut "])

    def test_windows(self):
        windows = ((0, 2, 4), (1, 4, 5), (2, 3, 9))
        for hour, used in ((2, ("4", "9999", "0", "0")), (3, ("4", "9999", "0", "9")), (4, ("0", "0", "2", "9"))):
            lines = machine_lines(state(CLUSTER, FREE, hour=hour, windows=[row for row in windows if row[2] > hour]))
            self.assertEqual((lines[0][14:20].strip(), lines[0][26:32].strip(), lines[1][14:20].strip(), lines[2][14:20].strip()), used)

    def test_plans_count_only_from_their_start(self):
        firm = job("f", 0, firm=True, plan=((0, 6, (0, 1, 0)),))
        self.assertEqual(machine_lines(state(CLUSTER, FREE, [firm], hour=5))[1], "longname up        0     2     0     8")
        self.assertEqual(machine_lines(state(CLUSTER, FREE, [firm], hour=6))[1], "longname up        2     2     3     8")

    def test_longer_amounts_are_not_cut(self):
        made = read_cluster("resources core\nmachine m zone z has 4\ngroup g under - weight 1 floor 0\n"
                            "template a group g rank 1 every 0 stage 6 of 9999 for 1")
        # Such a state is not made by the program; its line shows the width all the same.
        jobs = [job(f"j{at}", 0, (6,)) for at in range(3)]
        self.assertEqual(machine_lines(state(made, FREE, jobs)), ["m        up   179982     4"])
        self.assertEqual(machine_lines(state(made, FREE, jobs * 10)), ["m        up   1799820     4"])

    def test_against_free(self):
        dice = random.Random(65)
        for _, _, now, _ in [row for _ in range(20) for row in random_book(dice, 20, ROUGH)]:
            noted = now.note()
            for at, line in enumerate(machine_lines(now)):
                machine = now.cluster.machines[at]
                numbers = [int(line[k:k + 6]) for k in range(14, len(line), 6)]
                free = now.takes().free(at, Span(now.hour, now.hour + 1))
                self.assertEqual(numbers[1::2], list(machine.amounts))
                self.assertEqual([most - used for used, most in zip(numbers[::2], numbers[1::2])], list(free))
                self.assertEqual(line[:9], machine.name + " " * (9 - len(machine.name)))
            self.assertEqual(now.note(), noted)


class JobLinesTest(unittest.TestCase):
    def test_column_by_column(self):
        jobs = [
            job("i", 0, (1, 0, 0)), job("longjob1", 1, (0, 1, 2)), job("k", 0, done=0),
            job("f", 1, (2, 0, 0), firm=True, stage=1, done=2),
            job("g", 1, None, firm=True, plan=((0, 9, (0, 0, 3)), (1, 33, (0, 0, 2))))]
        self.assertEqual(job_lines(state(CLUSTER, FREE, jobs, hour=3)), [
            "i        a        loose runs   0  12 m1:1",
            "longjob1 template loose runs   0  24 longname:1,x:2",
            "k        a        loose waits  0  12 -",
            "f        template firm  runs   1   1 m1:2",
            "g        template firm  waits  0  24 -"])

    def test_columns(self):
        line = job_lines(state(CLUSTER, FREE, [job("i", 1, (1, 1, 1), done=19)]))[0]
        self.assertEqual([line[:9], line[9:18], line[18:24], line[24:30], line[30:32], line[32:36], line[36], line[37:]],
                         ["i        ", "template ", "loose ", "runs  ", " 0", "   5", " ", "m1:1,longname:1,x:1"])

    def test_no_jobs(self):
        self.assertEqual(job_lines(state(CLUSTER, FREE)), [])

    def test_against_the_state(self):
        dice = random.Random(6565)
        for _, _, now, _ in [row for _ in range(20) for row in random_book(dice, 20, ROUGH)]:
            lines = job_lines(now)
            self.assertEqual(len(lines), len(now))
            for line, one in zip(lines, now):
                words = line.split()
                place = "-" if one.place is None else ",".join(
                    f"{machine.name}:{count}" for machine, count in zip(now.cluster.machines, one.place) if count)
                self.assertEqual(words, [one.name, now.cluster.templates[one.template].name, "firm" if one.firm else "loose",
                                         "runs" if one.place else "waits", str(one.stage), str(now.left(one.name)), place])
                self.assertEqual(line.index(words[-1], 37), 37)


if __name__ == "__main__":
    unittest.main()
