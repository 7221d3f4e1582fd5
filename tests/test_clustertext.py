"""Point 11: the text of a cluster."""

import unittest

from gangbooks.cluster import Cluster
from gangbooks.clustertext import cluster_text, read_cluster
from gangbooks.errors import BadLine, BadRow
from tests.support import refuse, rows

LINES = [
    "resources core mem",
    "machine m1 zone z1 has 4 8 labels fast big",
    "machine m2 zone z2 has 2 0",
    "group top under - weight 1 floor 3 3",
    "group leaf under top weight 99 floor 1 0 limit 5 9999",
    "group lab under - weight 2 floor 0 0 limit 0 0",
    "template a group leaf rank 99 every 24 stage 6 of 1 4 for 24 stage 1 of 0 9999 for 1",
    "template big group lab rank 3 every 2 stage 2 of 1 4 for 3 wishes near needs:fast",
]
ROWS = (
    ["core", "mem"],
    [("m1", "z1", ("fast", "big"), (4, 8)), ("m2", "z2", (), (2, 0))],
    [("top", "", 1, (3, 3), None), ("leaf", "top", 99, (1, 0), (5, 9999)), ("lab", "", 2, (0, 0), (0, 0))],
    [("a", "leaf", 99, 24, ((6, (1, 4), 24), (1, (0, 9999), 1)), ()),
     ("big", "lab", 3, 2, ((2, (1, 4), 3),), ("near", "needs:fast"))],
)


def text_with(at, line):
    """The text of LINES with another line at this number, which counts from 1."""
    lines = list(LINES)
    lines[at - 1] = line
    return "\n".join(lines)


class WriteTest(unittest.TestCase):
    def test_text(self):
        self.assertEqual(cluster_text(Cluster(*ROWS)), "\n".join(LINES))

    def test_one_and_three_resources(self):
        one = Cluster(["r"], [("m", "z", (), (1,))], [("g", "", 1, (1,), (1,))], [("t", "g", 0, 0, ((1, (1,), 1),), ("apart",))])
        self.assertEqual(cluster_text(one), "resources r\nmachine m zone z has 1\ngroup g under - weight 1 floor 1 limit 1\n"
                         "template t group g rank 0 every 0 stage 1 of 1 for 1 wishes apart")
        three = Cluster(["r", "s", "t"], [("m", "z", ("l",), (1, 0, 2))], [("g", "", 1, (1, 0, 0), None)],
                        [("t", "g", 0, 0, ((1, (1, 2, 3), 1),), ())])
        self.assertEqual(cluster_text(three), "resources r s t\nmachine m zone z has 1 0 2 labels l\n"
                         "group g under - weight 1 floor 1 0 0\ntemplate t group g rank 0 every 0 stage 1 of 1 2 3 for 1")

    def test_a_written_cluster_is_read_again(self):
        for given in (ROWS, rows()):
            made = Cluster(*given)
            self.assertEqual(read_cluster(cluster_text(made)), made)
            self.assertEqual(made.entries(), given)


class ReadTest(unittest.TestCase):
    def test_rows(self):
        made = read_cluster("\n".join(LINES))
        self.assertIsInstance(made, Cluster)
        self.assertEqual(made.entries(), ROWS)
        self.assertEqual(cluster_text(made), "\n".join(LINES))

    def test_words_of_the_text_as_names(self):
        text = ("resources has resource of\n"
                "machine machine zone zone has 1 2 3 labels labels has zone\n"
                "machine labels zone labels has 1 2 3\n"
                "group group under - weight 1 floor 0 0 0\n"
                "group limit under group weight 1 floor 0 0 0 limit 1 2 3\n"
                "group under under limit weight 1 floor 0 0 0\n"
                "group weight under group weight 1 floor 0 0 0\n"
                "template stage group weight rank 1 every 2 stage 1 of 1 2 3 for 4 wishes needs:wishes near\n"
                "template wishes group under rank 1 every 2 stage 1 of 1 2 3 for 4 stage 2 of 1 2 3 for 4")
        made = read_cluster(text)
        self.assertEqual(made.entries()[0], ["has", "resource", "of"])
        self.assertEqual(made.entries()[1][0], ("machine", "zone", ("labels", "has", "zone"), (1, 2, 3)))
        self.assertEqual(made.entries()[1][1], ("labels", "labels", (), (1, 2, 3)))
        self.assertEqual(made.entries()[2][2], ("under", "limit", 1, (0, 0, 0), None))
        self.assertEqual(made.entries()[3][0][5], ("needs:wishes", "near"))
        self.assertEqual(cluster_text(made), text)

    def test_words_behind_wishes_are_wishes(self):
        # The line has its form: "stage" and the rest are words at the places of wishes, and Cluster refuses them.
        error = refuse(self, BadLine, 8, read_cluster,
                       text_with(8, "template big group lab rank 3 every 2 wishes stage 2 of 1 4 for 3"))
        self.assertEqual(error.__cause__.subject, ("templates", 1))

    def test_words_behind_labels_are_labels(self):
        error = refuse(self, BadLine, 2, read_cluster, text_with(2, "machine m1 zone z1 has 4 8 labels fast 5"))
        self.assertEqual(error.__cause__.subject, ("machines", 0))


class FormTest(unittest.TestCase):
    def refuse_line(self, at, line):
        error = refuse(self, BadLine, at, read_cluster, text_with(at, line))
        self.assertIsNone(error.__cause__)

    def test_resources(self):
        for line in ("resource core mem", "Resources core mem", "", " ", "resources ", "resources  core mem", " resources core mem",
                     "resources core mem ", "core mem", "machine m1 zone z1 has 4 8", "resourcescore mem"):
            self.refuse_line(1, line)

    def test_machines(self):
        for line in ("machine m1 zone z1 has 4", "machine m1 zone z1 has 4 8 9", "machine m1 zone z1 has 4 8 labels",
                     "machine m1 zone z1 has 4 8 label fast", "machine m1 zone z1 4 8", "machine m1 zones z1 has 4 8",
                     "machine zone z1 has 4 8", "machine m1 zone z1 have 4 8", "machine m1 z1 has 4 8", "machine",
                     "machine m1 zone z1 has 4 x", "machine m1 zone z1 has 4 8 fast", "machines m1 zone z1 has 4 8", "",
                     "machine m1 zone z1 has", "machine m1 zone z1", "Machine m1 zone z1 has 4 8",
                     "machine m1 zone z1 has labels fast"):
            self.refuse_line(2, line)

    def test_groups(self):
        for line in ("group top under - weight 1 floor 3", "group top under - weight 1 floor 3 3 3",
                     "group top under weight 1 floor 3 3", "group top under - weight floor 3 3",
                     "group top under - weight 1 floor 3 3 limit", "group top under - weight 1 floor 3 3 limit 5",
                     "group top under - weight 1 floor 3 3 limit 5 5 5", "group top under - weight 1 floor 3 3 limits 5 5",
                     "group top under - weight 1 floor 3 3 5 5", "group top under - weight x floor 3 3",
                     "group top over - weight 1 floor 3 3", "group top under - weights 1 floor 3 3",
                     "group top under - weight 1 floors 3 3", "group", "group top under - weight 1 floor 3 3 limit 5 x",
                     "group top under - weight 1 limit 3 3", "groups top under - weight 1 floor 3 3"):
            self.refuse_line(4, line)

    def test_templates(self):
        start = "template big group lab rank 3 every 2"
        for line in ("template big group lab rank 3 every", "template big group lab rank 3", "template",
                     "template big groups lab rank 3 every 2", "template big group lab ranks 3 every 2",
                     "template big group lab rank x every 2", "template big group lab rank 3 every x",
                     "template big group lab rank 3 each 2", "template big lab rank 3 every 2",
                     "templates big group lab rank 3 every 2",
                     start + " stage", start + " stage 2", start + " stage 2 of 1 4", start + " stage 2 of 1 4 for",
                     start + " stage 2 of 1 for 3", start + " stage 2 of 1 4 5 for 3", start + " stage x of 1 4 for 3",
                     start + " stage 2 of 1 4 for x", start + " stage 2 off 1 4 for 3", start + " stage 2 of 1 4 per 3",
                     start + " stages 2 of 1 4 for 3", start + " stage 2 of 1 4 for 3 near", start + " wishes",
                     start + " stage 2 of 1 4 for 3 wishes", start + " stage 2 of 1 4 for 3 stage",
                     start + " stage 2 of 1 4 for 3 wish near", start + " stage 2 of 1 4 for 3 stage 2 of 1 4 for"):
            self.refuse_line(8, line)

    def test_spaces(self):
        for at, line in enumerate(LINES, start=1):
            for wrong in (" " + line, line + " ", line.replace(" ", "  ", 1), "  ".join(line.rsplit(" ", 1)), ""):
                self.refuse_line(at, wrong)

    def test_integers(self):
        for number in ("10000", "00", "01", "0001", "-1", "+1", "1.0", "x", "1x", "12345"):
            self.refuse_line(2, f"machine m1 zone z1 has {number} 8")
            self.refuse_line(2, f"machine m1 zone z1 has 4 {number}")
            self.refuse_line(4, f"group top under - weight {number} floor 3 3")
            self.refuse_line(4, f"group top under - weight 1 floor 3 {number}")
            self.refuse_line(4, f"group top under - weight 1 floor 3 3 limit {number} 5")
            self.refuse_line(8, f"template big group lab rank {number} every 2 stage 2 of 1 4 for 3")
            self.refuse_line(8, f"template big group lab rank 3 every {number} stage 2 of 1 4 for 3")
            self.refuse_line(8, f"template big group lab rank 3 every 2 stage {number} of 1 4 for 3")
            self.refuse_line(8, f"template big group lab rank 3 every 2 stage 2 of 1 {number} for 3")
            self.refuse_line(8, f"template big group lab rank 3 every 2 stage 2 of 1 4 for {number}")

    def test_integers_of_one_to_four_digits(self):
        for number in (0, 7, 10, 999, 1000, 9999):
            made = read_cluster(text_with(2, f"machine m1 zone z1 has 4000 {number}").replace("floor 3 3", "floor 3 0"))
            self.assertEqual(made.machines[0].amounts.numbers, (4000, number))

    def test_empty_text_and_line_feed_at_the_end(self):
        refuse(self, BadLine, 1, read_cluster, "")
        refuse(self, BadLine, 1, read_cluster, "\n")
        refuse(self, BadLine, 1, read_cluster, "\n" + "\n".join(LINES))
        refuse(self, BadLine, 9, read_cluster, "\n".join(LINES) + "\n")
        refuse(self, BadLine, 2, read_cluster, "resources core mem\n")


class PlaceTest(unittest.TestCase):
    def refuse_order(self, number, *lines):
        error = refuse(self, BadLine, number, read_cluster, "\n".join(lines))
        self.assertIsNone(error.__cause__)

    def test_the_first_line_is_the_only_one_of_resources(self):
        self.refuse_order(1, *LINES[1:])
        self.refuse_order(1, LINES[1], LINES[0], *LINES[2:])
        self.refuse_order(2, LINES[0], LINES[0], *LINES[1:])
        self.refuse_order(9, *LINES, LINES[0])
        self.refuse_order(5, *LINES[:4], "resources", *LINES[4:])

    def test_no_line_of_an_earlier_part_behind_a_later_one(self):
        self.refuse_order(9, *LINES, LINES[1])
        self.refuse_order(9, *LINES, LINES[3])
        self.refuse_order(5, *LINES[:4], LINES[1], *LINES[4:])
        self.refuse_order(3, LINES[0], LINES[3], LINES[1], *LINES[4:])
        self.refuse_order(3, LINES[0], LINES[6], LINES[3])
        self.refuse_order(3, LINES[0], LINES[6], LINES[1])

    def test_the_first_wrong_line_counts(self):
        self.refuse_order(3, *LINES[:2], "x", "y")
        self.refuse_order(3, LINES[0], LINES[3], LINES[1], "x")
        self.refuse_order(2, LINES[0], "x", LINES[0])
        self.refuse_order(1, "x", LINES[1])

    def test_form_and_place_come_before_the_rows(self):
        # The machine is one that Cluster refuses, but a later line has no form.
        self.refuse_order(8, LINES[0], "machine M1 zone z1 has 0 0", *LINES[2:7], "x")


class RowsTest(unittest.TestCase):
    def refuse_entry(self, number, entry, *lines):
        error = refuse(self, BadLine, number, read_cluster, "\n".join(lines))
        self.assertIs(type(error.__cause__), BadRow)
        self.assertEqual(error.__cause__.subject, entry)

    def with_line(self, at, line):
        return text_with(at, line).split("\n")

    def test_resources(self):
        self.refuse_entry(1, ("resources", 1), *self.with_line(1, "resources core core"))
        self.refuse_entry(1, ("resources", 0), *self.with_line(1, "resources Core mem"))
        self.refuse_entry(1, ("resources", 0), "resources", "machine m zone z has", "group g under - weight 1 floor",
                          "template t group g rank 0 every 0 stage 1 of for 1")
        self.refuse_entry(1, ("resources", 0), "resources")
        self.refuse_entry(1, ("resources", 0), "resources", "group g under - weight 1 floor limit")
        self.refuse_entry(1, ("resources", 3), "resources a b c d", "machine m zone z has 1 2 3 4")

    def test_line_of_the_entry(self):
        self.refuse_entry(2, ("machines", 0), *self.with_line(2, "machine M zone z1 has 4 8"))
        self.refuse_entry(3, ("machines", 1), *self.with_line(3, "machine m1 zone z1 has 4 8"))
        self.refuse_entry(3, ("machines", 1), *self.with_line(3, "machine m2 zone z! has 4 8"))
        self.refuse_entry(3, ("machines", 1), *self.with_line(3, "machine m2 zone z has 0 0"))
        self.refuse_entry(4, ("groups", 0), *self.with_line(4, "group top under top weight 1 floor 3 3"))
        self.refuse_entry(5, ("groups", 1), *self.with_line(5, "group leaf under top weight 100 floor 1 0"))
        self.refuse_entry(6, ("groups", 2), *self.with_line(6, "group lab under -- weight 1 floor 0 0"))
        self.refuse_entry(7, ("templates", 0), *self.with_line(7, "template a group top rank 9 every 4 stage 6 of 1 4 for 4"))
        self.refuse_entry(8, ("templates", 1), *self.with_line(8, "template big group lab rank 3 every 25 stage 1 of 1 1 for 1"))
        self.refuse_entry(8, ("templates", 1), *self.with_line(8, "template big group lab rank 3 every 2"))
        self.refuse_entry(8, ("templates", 1), *self.with_line(8, "template big group lab rank 3 every 2 wishes near"))
        self.refuse_entry(8, ("templates", 1), *self.with_line(8, LINES[7] + " far"))
        self.refuse_entry(8, ("templates", 1), *self.with_line(8, LINES[7] + " never:x"))
        self.refuse_entry(8, ("templates", 1), *self.with_line(8, LINES[6].replace(" a ", " b ") + " stage 1 of 1 1 for 1" * 2))

    def test_too_many_entries(self):
        machines = [f"machine n{at} zone z has 1 1" for at in range(7)]
        self.refuse_entry(8, ("machines", 6), LINES[0], *machines, *LINES[3:])
        groups = [f"group h{at} under - weight 1 floor 0 0" for at in range(9)]
        self.refuse_entry(12, ("groups", 8), *LINES[:3], *groups, *LINES[6:])
        templates = [LINES[6].replace(" a ", f" t{at} ") for at in range(9)]
        self.refuse_entry(15, ("templates", 8), *LINES[:6], *templates)

    def test_no_such_line(self):
        self.refuse_entry(0, ("machines", 0), LINES[0])
        self.refuse_entry(0, ("machines", 0), LINES[0], *LINES[3:])
        self.refuse_entry(0, ("groups", 0), *LINES[:3])
        self.refuse_entry(0, ("groups", 0), *LINES[:3], *LINES[6:])
        self.refuse_entry(0, ("templates", 0), *LINES[:6])


if __name__ == "__main__":
    unittest.main()
