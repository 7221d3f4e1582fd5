"""Point 29: policies."""

import itertools
import types
import unittest

from gangbooks.errors import BadPolicy
from gangbooks.policy import Policy, all_policies
from tests.support import refuse

ORDERS = ("share", "rank", "age", "short")
PLACES = ("first", "tight", "loose")
EVICTS = ("never", "owed", "any")
FILLS = ("free", "strict", "hold")


class PolicyTest(unittest.TestCase):
    def test_class_values(self):
        self.assertEqual((Policy.ORDERS, Policy.PLACES, Policy.EVICTS, Policy.FILLS), (ORDERS, PLACES, EVICTS, FILLS))

    def test_attributes_iteration_text(self):
        for words in itertools.product(ORDERS, PLACES, EVICTS, FILLS):
            made = Policy(*words)
            self.assertEqual((made.order, made.place, made.evict, made.fill), words)
            self.assertEqual(tuple(made), words)
            self.assertEqual(list(made), list(words))
            self.assertEqual(made.text(), " ".join(words))

    def test_the_first_wrong_word_is_refused(self):
        refuse(self, BadPolicy, "x", Policy, "x", "y", "never", "z")
        refuse(self, BadPolicy, "y", Policy, "age", "y", "x", "z")
        refuse(self, BadPolicy, "x", Policy, "age", "first", "x", "z")
        refuse(self, BadPolicy, "z", Policy, "age", "first", "any", "z")
        refuse(self, BadPolicy, "first", Policy, "first", "age", "any", "free")
        refuse(self, BadPolicy, "", Policy, "", "first", "any", "free")
        refuse(self, BadPolicy, "Age", Policy, "Age", "first", "any", "free")
        refuse(self, BadPolicy, "strict", Policy, "age", "first", "strict", "strict")

    def test_read(self):
        for words in itertools.product(ORDERS, PLACES, EVICTS, FILLS):
            made = Policy.read(" ".join(words))
            self.assertIs(type(made), Policy)
            self.assertEqual(tuple(made), words)

    def test_texts_of_no_policy(self):
        for text in ("", "age", "age first any", "age first any free free", "age  first any free", " age first any free",
                     "age first any free ", "first age any free", "age first any Free", "age,first,any,free",
                     "age first any\nfree", "x first any free"):
            refuse(self, BadPolicy, text, Policy.read, text)

    def test_indexes_of_different_words(self):
        one = Policy("age", "first", "any", "free")
        self.assertEqual(one ^ Policy("age", "first", "any", "free"), [])
        self.assertEqual(one ^ Policy("rank", "first", "any", "free"), [0])
        self.assertEqual(one ^ Policy("age", "loose", "any", "hold"), [1, 3])
        self.assertEqual(one ^ Policy("age", "first", "owed", "free"), [2])
        self.assertEqual(one ^ Policy("short", "tight", "never", "strict"), [0, 1, 2, 3])
        self.assertEqual(Policy("share", "first", "never", "free") ^ Policy("share", "first", "never", "hold"), [3])

    def test_equality(self):
        for one, other in itertools.product(list(all_policies())[::7], repeat=2):
            self.assertIs(one == other, not one ^ other)
            self.assertIs(one != other, bool(one ^ other))
        self.assertIs(Policy("age", "first", "any", "free") == Policy("age", "first", "any", "free"), True)
        self.assertIs(Policy("age", "first", "any", "free") == ("age", "first", "any", "free"), False)

    def test_nothing_is_changed(self):
        one, other = Policy("age", "first", "any", "free"), Policy("rank", "first", "any", "hold")
        (one ^ other).clear()
        self.assertEqual(one ^ other, [0, 3])
        self.assertEqual((one.text(), other.text()), ("age first any free", "rank first any hold"))


class AllTest(unittest.TestCase):
    def test_108_policies_the_last_word_fastest(self):
        found = list(all_policies())
        self.assertEqual(len(found), 108)
        self.assertEqual([tuple(policy) for policy in found], list(itertools.product(ORDERS, PLACES, EVICTS, FILLS)))
        self.assertEqual([policy.text() for policy in found[:4]], [
            "share first never free", "share first never strict", "share first never hold", "share first owed free"])

    def test_it_yields(self):
        self.assertIsInstance(all_policies(), types.GeneratorType)
        self.assertIsInstance(next(all_policies()), Policy)


if __name__ == "__main__":
    unittest.main()
