"""The names of the interface stand in their files, with the arguments that the document gives."""

import importlib
import inspect
import unittest

FUNCTIONS = {
    "notes": {"write_note": "(note)", "read_note": "(text)"},
    "clustertext": {"cluster_text": "(cluster)", "read_cluster": "(text)"},
    "fitting": {
        "bounds": "(takes, gang, span, barred=())",
        "stands": "(takes, gang, span, counts, barred=())",
        "placings": "(takes, gang, span, barred=())",
        "fit": "(takes, gang, span, word, barred=())",
        "worth": "(cluster, gang, counts)",
        "takes_of": "(cluster, gang, span, counts)",
    },
    "packing": {"pack": "(takes, items, *, barred=(), shut=())"},
    "usage": {
        "used_by": "(cluster, gangs)",
        "level": "(cluster, group, used)",
        "owed": "(cluster, used, gang)",
        "stopped": "(cluster, used, gang)",
    },
    "levels": {"fair": "(wants, amount)"},
    "lots": {"full_lots": "(cluster)", "floors_hold": "(cluster)"},
    "policy": {"all_policies": "()"},
    "picks": {"pick": "(cluster, policy, used, jobs)", "precedence": "(cluster, policy, used, jobs)"},
    "evict": {"spare": "(takes, gang, span, running, barred=())"},
    "settle": {"settle": "(state)"},
    "hours": {
        "come": "(state, name, template)",
        "drop": "(state, name)",
        "early": "(state, name)",
        "tick": "(state)",
        "change": "(state, policy)",
        "basic_step": "(state, event)",
    },
    "reserve": {
        "reserve": "(state, name, template, hour)",
        "earliest": "(state, template, hour)",
        "in_the_way": "(state, template, hour)",
    },
    "windows": {"close": "(state, machine, start, hours)", "cancel": "(state, machine, end)"},
    "failing": {
        "fail": "(state, machine)",
        "repair": "(state, machine)",
        "shut": "(state, machine)",
        "reopen": "(state, machine)",
        "failing_step": "(state, event)",
        "survives": "(state, failures)",
    },
    "moving": {
        "allowed": "(state, name, counts, barred=())",
        "moved": "(state, name, counts, barred=())",
        "move_plan": "(state, machine)",
        "drain": "(state, machine)",
    },
    "events": {"event_line": "(event)", "read_event": "(line)", "full_step": "(state, event)"},
    "tables": {"machine_lines": "(state)", "job_lines": "(state)"},
    "shapes": {"shape": "(state)", "state_of": "(cluster, shape)"},
    "menus": {"explore": "(state, menu, step, *, most=1000)"},
    "promises": {"judge": "(state, menu, promise, step, *, most=1000)"},
    "waits": {"longest_wait": "(state, menu, template, step, *, most=1000)"},
    "pairs": {
        "alike": "(state, policy, menu, step, *, most=1000)",
        "never_later": "(state, policy, menu, step, *, most=1000)",
        "harmless": "(state, event, menu, step, *, most=1000)",
    },
    "certificates": {"certificate_text": "(certificate)", "read_certificate": "(text)"},
    "checks": {
        "check_shortage": "(takes, shortage, barred=())",
        "check_packing": "(takes, items, packing, *, barred=(), shut=())",
        "check_tree": "(takes, items, tree, *, barred=(), shut=())",
        "check_levels": "(wants, levels)",
        "check_floors": "(cluster, certificate)",
        "check_settlement": "(state, settlement)",
        "check_quote": "(state, certificate)",
        "check_blockers": "(state, blockers)",
        "check_moves": "(state, certificate)",
        "check_survival": "(state, failures, certificate)",
    },
    "bookchecks": {
        "check_promise": "(state, menu, promise, step, verdict)",
        "check_wait": "(state, menu, template, step, certificate)",
        "check_pairs": "(state, other, menu, step, certificate)",
    },
}
CLASSES = {
    "shares": {
        "Share": ("(top, bottom=1)", "read sign text over __add__ __radd__ __sub__ __rsub__ __mul__ __rmul__ "
                  "__floordiv__ __mod__ __pow__ __neg__ __abs__ __eq__ __bool__"),
    },
    "amounts": {
        "Amounts": ("(*numbers)", "of __add__ __sub__ __and__ __or__ __mul__ __rmul__ __floordiv__ __mod__ "
                    "__neg__ __abs__ __contains__ __eq__ __getitem__ __len__ __bool__ __iter__"),
    },
    "spans": {
        "Span": ("(start, end)", "__lshift__ __rshift__ __and__ __or__ __xor__ __contains__ __eq__ __len__ __bool__"),
    },
    "notes": {"Certificate": (None, ""), "Yes": (None, "holds"), "No": (None, "holds")},
    "cluster": {
        "Cluster": ("(resources, machines, groups, templates)",
                    "machine_index group_index template_index entries __eq__ stage_of"),
        "Machine": (None, ""), "Group": (None, ""), "Template": (None, ""), "Stage": (None, ""),
    },
    "takes": {"Takes": ("(cluster, rows)", "free users ends overfull __add__ __iter__")},
    "fitting": {"Shortage": ("(gang, start, end, rows)", "note")},
    "packing": {"Packing": ("(places)", "note"), "CaseTree": ("(node)", "note")},
    "levels": {
        "Wants": ("(cluster, resource)", "put __getitem__ __setitem__ __iter__"),
        "Levels": ("(resource, amount, wanted, shares, rows)", "note __getitem__"),
    },
    "lots": {"FloorPlan": ("(rows)", "note"), "Crowded": ("(lot, node)", "note")},
    "policy": {"Policy": ("(order, place, evict, fill)", "text read __xor__ __eq__ __iter__")},
    "settle": {"Settlement": ("(rows, deeds, hold, after)", "note")},
    "reserve": {
        "Quote": ("(template, hour, places, refusals)", "note"),
        "NoQuote": ("(template, refusals)", "note"),
        "Blockers": ("(template, hour, rows)", "note"),
    },
    "failing": {"Survival": ("(rows)", "note"), "Frail": ("(machines, node)", "note")},
    "moving": {"MovePlan": ("(machine, moves)", "note"), "Stuck": ("(machine, places)", "note")},
    "state": {
        "Job": ("(name, template, came=0, *, stage=0, done=0)", ""),
        "State": (None, "empty takes base left note text __getitem__ __contains__ __len__ __iter__"),
    },
    "books": {"Book": ("(events)", "read text first without put __getitem__ __add__ __eq__ __len__ __iter__")},
    "keeper": {
        "Keeper": ("(start, step)", "replay state entered enter extend_by undo undo_all strike insert_at as_of would walk "
                   "trial perform __iadd__ __isub__ __len__ __iter__"),
    },
    "menus": {"Menu": ("(*templates, many=2, failures=0, early=False, drops=False)", "many set_many __call__")},
    "promises": {
        "Promise": (None, ""), "Begins": ("(name, hours)", ""), "Ends": ("(name, hours)", ""), "Stays": ("(name)", ""),
        "Reserved": ("(name)", ""), "Floor": ("(group)", ""), "Verdict": (None, "lines"),
        "Kept": ("(words, rows)", "note lines"), "Broken": ("(words, book)", "note lines"),
    },
    "waits": {
        "WaitBound": ("(hours, name, book, shapes, rows)", "note"),
        "WaitRing": ("(name, book, ring)", "note"),
    },
    "pairs": {"PairTable": ("(relation, rows)", "note"), "PairBook": ("(relation, book)", "note")},
}
METHODS = {
    ("shares", "Share", "over"): "(self, other)",
    ("amounts", "Amounts", "of"): "(resource_names, **named)",
    ("cluster", "Cluster", "machine_index"): "(self, name)",
    ("cluster", "Cluster", "group_index"): "(self, name)",
    ("cluster", "Cluster", "template_index"): "(self, name)",
    ("cluster", "Cluster", "stage_of"): "(self, gang)",
    ("levels", "Wants", "put"): "(self, name, amount)",
    ("takes", "Takes", "free"): "(self, machine, span)",
    ("takes", "Takes", "users"): "(self, machine, span)",
    ("state", "State", "left"): "(self, name)",
    ("books", "Book", "first"): "(self, n)",
    ("books", "Book", "without"): "(self, at)",
    ("books", "Book", "put"): "(self, at, event)",
    ("keeper", "Keeper", "enter"): "(self, event)",
    ("keeper", "Keeper", "extend_by"): "(self, events)",
    ("keeper", "Keeper", "undo"): "(self)",
    ("keeper", "Keeper", "undo_all"): "(self, n)",
    ("keeper", "Keeper", "strike"): "(self, at)",
    ("keeper", "Keeper", "insert_at"): "(self, at, event)",
    ("keeper", "Keeper", "as_of"): "(self, n)",
    ("keeper", "Keeper", "would"): "(self, *events)",
    ("keeper", "Keeper", "walk"): "(self)",
    ("keeper", "Keeper", "trial"): "(self)",
    ("keeper", "Keeper", "perform"): "(self, orders)",
    ("menus", "Menu", "set_many"): "(self, n)",
    ("menus", "Menu", "__call__"): "(self, state)",
    ("promises", "Verdict", "lines"): "(self)",
    ("promises", "Kept", "lines"): "(self)",
    ("promises", "Broken", "lines"): "(self)",
}
ERRORS = ("BadShare BadAmounts BadSpan BadNote BadRow BadLine BadName BadPolicy BadHour BadEvent BadMenu BadCertificate Unknown Taken Full "
          "NotRunning NoChange NoWindow NoRoom Busy BadMove TooWide NoEvent NothingToUndo Refused").split()


def named(module, name):
    return getattr(importlib.import_module("gangbooks." + module), name)


class InterfaceTest(unittest.TestCase):
    def test_functions(self):
        for module, functions in FUNCTIONS.items():
            for name, arguments in functions.items():
                function = named(module, name)
                self.assertEqual(function.__module__, "gangbooks." + module)
                self.assertEqual(str(inspect.signature(function)), arguments, name)

    def test_classes(self):
        for module, classes in CLASSES.items():
            for name, (arguments, methods) in classes.items():
                made = named(module, name)
                self.assertEqual(made.__module__, "gangbooks." + module)
                if arguments is not None:
                    self.assertEqual(str(inspect.signature(made)), arguments, name)
                for method in methods.split():
                    self.assertIn(method, vars(made), (name, method))

    def test_methods(self):
        for (module, name, method), arguments in METHODS.items():
            self.assertEqual(str(inspect.signature(vars(named(module, name))[method])
                                 if method != "of" else inspect.signature(named(module, name).of)), arguments)

    def test_kinds_of_methods(self):
        for module, name, method, kind in (
                ("shares", "Share", "read", classmethod), ("policy", "Policy", "read", classmethod),
                ("state", "State", "empty", classmethod), ("amounts", "Amounts", "of", staticmethod),
                ("shares", "Share", "sign", property), ("books", "Book", "read", classmethod), ("keeper", "Keeper", "replay", classmethod),
                ("keeper", "Keeper", "state", property), ("keeper", "Keeper", "entered", property), ("menus", "Menu", "many", property)):
            self.assertIsInstance(vars(named(module, name))[method], kind)
        self.assertEqual(str(inspect.signature(named("books", "Book").read)), "(text)")
        self.assertEqual(str(inspect.signature(named("keeper", "Keeper").replay)), "(start, step, book)")
        self.assertEqual(str(inspect.signature(named("shares", "Share").read)), "(text)")
        self.assertEqual(str(inspect.signature(named("policy", "Policy").read)), "(text)")
        self.assertEqual(str(inspect.signature(named("state", "State").empty)), "(cluster, policy)")

    def test_errors(self):
        self.assertEqual(named("errors", "GangError").__bases__, (ValueError,))
        for name in ERRORS:
            made = named("errors", name)
            self.assertEqual((made.__module__, made.__bases__), ("gangbooks.errors", (named("errors", "GangError"),)))
            self.assertEqual(made("what").subject, "what")


if __name__ == "__main__":
    unittest.main()
