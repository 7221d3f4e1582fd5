"""The names of the interface stand in their files, with the arguments that the document gives."""

import importlib
import inspect
import unittest

FUNCTIONS = {
    "notes": {"write_note": "(note)", "read_note": "(text)"},
    "clustertext": {"cluster_text": "(cluster)", "read_cluster": "(text)"},
    "fitting": {
        "bounds": "(takes, gang, span, barred=())",
        "stands": "(takes, gang, span, counts, barred=())",
        "placings": "(takes, gang, span, barred=())",
        "fit": "(takes, gang, span, word, barred=())",
        "worth": "(cluster, gang, counts)",
        "takes_of": "(cluster, gang, span, counts)",
    },
    "packing": {"pack": "(takes, items, *, barred=(), shut=())"},
    "usage": {
        "used_by": "(cluster, gangs)",
        "level": "(cluster, group, used)",
        "owed": "(cluster, used, gang)",
        "stopped": "(cluster, used, gang)",
    },
    "levels": {"fair": "(wants, amount)"},
    "lots": {"full_lots": "(cluster)", "floors_hold": "(cluster)"},
    "policy": {"all_policies": "()"},
    "picks": {"pick": "(cluster, policy, used, jobs)", "precedence": "(cluster, policy, used, jobs)"},
    "evict": {"spare": "(takes, gang, span, running, barred=())"},
    "settle": {"settle": "(state)"},
    "hours": {
        "come": "(state, name, template)",
        "drop": "(state, name)",
        "early": "(state, name)",
        "tick": "(state)",
        "change": "(state, policy)",
        "basic_step": "(state, event)",
    },
    "reserve": {
        "reserve": "(state, name, template, hour)",
        "earliest": "(state, template, hour)",
        "in_the_way": "(state, template, hour)",
    },
    "windows": {"close": "(state, machine, start, hours)", "cancel": "(state, machine, end)"},
    "failing": {
        "fail": "(state, machine)",
        "repair": "(state, machine)",
        "shut": "(state, machine)",
        "reopen": "(state, machine)",
        "failing_step": "(state, event)",
        "survives": "(state, failures)",
    },
    "moving": {
        "allowed": "(state, name, counts, barred=())",
        "moved": "(state, name, counts, barred=())",
        "move_plan": "(state, machine)",
        "drain": "(state, machine)",
    },
}
CLASSES = {
    "shares": {
        "Share": ("(top, bottom=1)", "read sign text over __add__ __radd__ __sub__ __rsub__ __mul__ __rmul__ "
                  "__floordiv__ __mod__ __pow__ __neg__ __abs__ __eq__ __bool__"),
    },
    "amounts": {
        "Amounts": ("(*numbers)", "of __add__ __sub__ __and__ __or__ __mul__ __rmul__ __floordiv__ __mod__ "
                    "__neg__ __abs__ __contains__ __eq__ __getitem__ __len__ __bool__ __iter__"),
    },
    "spans": {
        "Span": ("(start, end)", "__lshift__ __rshift__ __and__ __or__ __xor__ __contains__ __eq__ __len__ __bool__"),
    },
    "notes": {"Certificate": (None, ""), "Yes": (None, "holds"), "No": (None, "holds")},
    "cluster": {
        "Cluster": ("(resources, machines, groups, templates)",
                    "machine_index group_index template_index entries __eq__ stage_of"),
        "Machine": (None, ""), "Group": (None, ""), "Template": (None, ""), "Stage": (None, ""),
    },
    "takes": {"Takes": ("(cluster, rows)", "free users ends overfull __add__ __iter__")},
    "fitting": {"Shortage": ("(gang, start, end, rows)", "note")},
    "packing": {"Packing": ("(places)", "note"), "CaseTree": ("(node)", "note")},
    "levels": {
        "Wants": ("(cluster, resource)", "put __getitem__ __setitem__ __iter__"),
        "Levels": ("(resource, amount, wanted, shares, rows)", "note __getitem__"),
    },
    "lots": {"FloorPlan": ("(rows)", "note"), "Crowded": ("(lot, node)", "note")},
    "policy": {"Policy": ("(order, place, evict, fill)", "text read __xor__ __eq__ __iter__")},
    "settle": {"Settlement": ("(rows, deeds, hold, after)", "note")},
    "reserve": {
        "Quote": ("(template, hour, places, refusals)", "note"),
        "NoQuote": ("(template, refusals)", "note"),
        "Blockers": ("(template, hour, rows)", "note"),
    },
    "failing": {"Survival": ("(rows)", "note"), "Frail": ("(machines, node)", "note")},
    "moving": {"MovePlan": ("(machine, moves)", "note"), "Stuck": ("(machine, places)", "note")},
    "state": {
        "Job": ("(name, template, came=0, *, stage=0, done=0)", ""),
        "State": (None, "empty takes base left note text __getitem__ __contains__ __len__ __iter__"),
    },
}
METHODS = {
    ("shares", "Share", "over"): "(self, other)",
    ("amounts", "Amounts", "of"): "(resource_names, **named)",
    ("cluster", "Cluster", "machine_index"): "(self, name)",
    ("cluster", "Cluster", "group_index"): "(self, name)",
    ("cluster", "Cluster", "template_index"): "(self, name)",
    ("cluster", "Cluster", "stage_of"): "(self, gang)",
    ("levels", "Wants", "put"): "(self, name, amount)",
    ("takes", "Takes", "free"): "(self, machine, span)",
    ("takes", "Takes", "users"): "(self, machine, span)",
    ("state", "State", "left"): "(self, name)",
}


def named(module, name):
    return getattr(importlib.import_module("gangbooks." + module), name)


class InterfaceTest(unittest.TestCase):
    def test_functions(self):
        for module, functions in FUNCTIONS.items():
            for name, arguments in functions.items():
                function = named(module, name)
                self.assertEqual(function.__module__, "gangbooks." + module)
                self.assertEqual(str(inspect.signature(function)), arguments, name)

    def test_classes(self):
        for module, classes in CLASSES.items():
            for name, (arguments, methods) in classes.items():
                made = named(module, name)
                self.assertEqual(made.__module__, "gangbooks." + module)
                if arguments is not None:
                    self.assertEqual(str(inspect.signature(made)), arguments, name)
                for method in methods.split():
                    self.assertIn(method, vars(made), (name, method))

    def test_methods(self):
        for (module, name, method), arguments in METHODS.items():
            self.assertEqual(str(inspect.signature(vars(named(module, name))[method])
                                 if method != "of" else inspect.signature(named(module, name).of)), arguments)

    def test_kinds_of_methods(self):
        for module, name, method, kind in (
                ("shares", "Share", "read", classmethod), ("policy", "Policy", "read", classmethod),
                ("state", "State", "empty", classmethod), ("amounts", "Amounts", "of", staticmethod),
                ("shares", "Share", "sign", property)):
            self.assertIsInstance(vars(named(module, name))[method], kind)


if __name__ == "__main__":
    unittest.main()
