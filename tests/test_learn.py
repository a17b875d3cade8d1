"""Point 14: learning."""

import unittest

from pilerun.errors import BadRule, TooMany
from pilerun.reader import Reader
from tests import plain
from tests.samples import (Chance, Number, Pair, Text, all_machines, drawn_rule, told, told_of, wrong_numbers,
                           wrong_piles, wrong_signs, wrong_things)

RULE = (0, "a", 0, "")


def weights_of(reader):
    return {arrow: reader.weight(arrow) for arrow in reader.arrows()}


class LearnTest(unittest.TestCase):
    def test_arrows_that_came(self):
        reader = Reader(1, [(0, "b", 0, "aa")], (0, ""))
        self.assertEqual(reader.learn(RULE), [(0, "a", 0), (0, "b", 0)])
        self.assertEqual(reader.rules(), [(0, "b", 0, "aa"), RULE])
        self.assertEqual(told_of(reader, (0, "b")), (3, [(0, "b", 0)], [0, 1, 1]))

    def test_arrows_whose_weight_became_less(self):
        reader = Reader(1, [RULE, (0, "b", 0, "aa"), (0, "c", 0, "b")], (0, ""))
        self.assertEqual(reader.learn((0, "b", 0, "")), [(0, "b", 0), (0, "c", 0)])
        self.assertEqual(weights_of(reader), {(0, "a", 0): 1, (0, "b", 0): 1, (0, "c", 0): 2})

    def test_nothing_came(self):
        reader = Reader(1, [RULE, (0, "b", 0, "a")], (0, "c"))
        self.assertEqual(reader.learn(RULE), [])
        self.assertEqual(reader.learn((0, "b", 0, "aa")), [])
        self.assertEqual(reader.learn((0, "c", 0, "c")), [])
        self.assertEqual(reader.learn((0, "d", 0, "d")), [])
        self.assertEqual(len(reader.rules()), 6)

    def test_another_reason_with_the_same_weight_is_not_told(self):
        rules = [(0, "a", 2, ""), (1, "b", 0, ""), (2, "b", 0, ""), (2, "c", 0, "ab")]
        reader = Reader(3, rules, (0, ""))
        self.assertEqual(reader.reason((2, "c", 0)), (3, ((0, "a", 2), (2, "b", 0))))
        self.assertEqual(reader.learn((0, "a", 1, "")), [(0, "a", 1)])
        self.assertEqual(reader.reason((2, "c", 0)), (3, ((0, "a", 1), (1, "b", 0))))
        self.assertEqual(reader.run((2, "c")), [3, 4, 1])

    def test_the_list_rises(self):
        reader = Reader(2, [(1, "c", 0, "ab"), (0, "b", 1, "a"), (1, "a", 0, "a")], (0, "z"))
        came = reader.learn((0, "a", 0, ""))
        self.assertEqual(came, [(0, "a", 0), (0, "b", 0), (1, "a", 0), (1, "c", 0)])
        came = reader.learn((1, "a", 1, ""))
        self.assertEqual(came, [(0, "b", 1), (1, "a", 1), (1, "c", 1)])
        self.assertIs(type(came), list)

    def test_as_a_reader_made_with_it(self):
        chance = Chance(77)
        for many, rules, goal in all_machines(80, seed=41):
            reader = Reader(many, rules, goal)
            spots = plain.all_spots(many, "ab", 3)
            for asked in range(3):
                before = weights_of(reader)
                if asked:
                    for spot in spots:
                        told_of(reader, spot)
                if len(rules) == 12:
                    break
                rule = drawn_rule(chance, many, "ab")
                rules = rules + [rule]
                came = reader.learn(rule)
                made = Reader(many, rules, goal)
                self.assertEqual(told(reader), told(made))
                self.assertEqual([told_of(reader, spot) for spot in spots], [told_of(made, spot) for spot in spots])
                after = weights_of(made)
                self.assertEqual(came, sorted(arrow for arrow in after if after[arrow] < before.get(arrow, 10 ** 9)))

    def test_all_rules_learned_one_by_one(self):
        for many, rules, goal in all_machines(40, seed=42, most_states=4, most_rules=12):
            reader = Reader(many, [], goal)
            for rule in rules:
                reader.learn(rule)
            self.assertEqual(told(reader), told(Reader(many, rules, goal)))

    def test_eleven_and_twelve_rules(self):
        reader = Reader(1, [(0, "b", 0, "a")] * 11, (0, ""))
        self.assertEqual(reader.learn(RULE), [(0, "a", 0), (0, "b", 0)])
        self.assertEqual(len(reader.rules()), 12)
        before = told(reader)
        for rule in (RULE, (0, "c", 0, "")):
            with self.assertRaises(TooMany) as caught:
                reader.learn(rule)
            self.assertIs(type(caught.exception), TooMany)
            self.assertEqual(told(reader), before)
        self.assertIsNone(reader.least((0, "c")))


class BadRuleTest(unittest.TestCase):
    def refuse(self, wrong):
        for rules in ([RULE], [RULE] * 12):
            reader = Reader(2, rules, (1, "ab"))
            before = told(reader)
            with self.assertRaises(BadRule) as caught:
                reader.learn(wrong)
            self.assertIs(type(caught.exception), BadRule)
            self.assertEqual(told(reader), before)

    def test_wrong_kinds(self):
        for wrong in wrong_things() + [list(RULE), [RULE], (RULE,), {RULE: 0}, Pair(RULE), "0a0", 12]:
            self.refuse(wrong)

    def test_wrong_lengths(self):
        for wrong in ((), RULE[:1], RULE[:3], RULE + ("",), RULE + RULE):
            self.refuse(wrong)

    def test_wrong_states(self):
        for wrong in wrong_numbers(2) + [Number(0)]:
            self.refuse((wrong, "a", 0, ""))
            self.refuse((0, "a", wrong, ""))

    def test_wrong_signs_and_pushes(self):
        for wrong in wrong_signs() + [Text("a")]:
            self.refuse((0, wrong, 0, ""))
        for wrong in wrong_piles() + [Text("a"), "aaa", "abcd"]:
            self.refuse((0, "a", 0, wrong))
