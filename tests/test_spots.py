"""Points 2 to 4: states, signs, piles, spots, rules and steps: pilerun/spots.py."""

import unittest

from pilerun.spots import after, is_rule, is_spot, nexts
from tests import plain
from tests.samples import Number, Pair, Row, Text, all_machines, wrong_numbers, wrong_piles, wrong_signs, wrong_things

LETTERS = "abcdefghijklmnopqrstuvwxyz"


class IsRuleTest(unittest.TestCase):
    def refuse(self, thing, many):
        self.assertIs(is_rule(thing, many), False)

    def test_rules(self):
        for push in ("", "b", "ab", "aa"):
            self.assertIs(is_rule((0, "a", 0, push), 1), True)
            self.assertIs(is_rule((4, "a", 0, push), 5), True)
            self.assertIs(is_rule((0, "a", 4, push), 5), True)

    def test_each_small_letter_is_a_sign(self):
        for sign in LETTERS:
            self.assertIs(is_rule((0, sign, 0, sign + sign), 1), True)

    def test_each_state_is_one_of_so_many(self):
        for many in range(1, 6):
            for state in range(-2, 8):
                self.assertIs(is_rule((state, "a", 0, ""), many), 0 <= state < many)
                self.assertIs(is_rule((0, "a", state, ""), many), 0 <= state < many)

    def test_no_sign_of_ascii_but_the_small_letters(self):
        for number in range(256):
            sign = chr(number)
            self.assertIs(is_rule((0, sign, 0, ""), 1), sign in LETTERS)
            self.assertIs(is_rule((0, "a", 0, sign), 1), sign in LETTERS)
            self.assertIs(is_rule((0, "a", 0, "b" + sign), 1), sign in LETTERS)

    def test_wrong_states(self):
        for wrong in wrong_numbers(2):
            self.refuse((wrong, "a", 0, ""), 2)
            self.refuse((0, "a", wrong, ""), 2)

    def test_wrong_signs(self):
        for wrong in wrong_signs():
            self.refuse((0, wrong, 0, ""), 2)

    def test_wrong_pushes(self):
        for wrong in wrong_piles() + ["aaa", "abc", "a" * 500]:
            self.refuse((0, "a", 0, wrong), 2)

    def test_wrong_lengths(self):
        for wrong in ((), (0,), (0, "a"), (0, "a", 0), (0, "a", 0, "", ""), (0, "a", 0, "", None), (0, "a") * 2 + (0,)):
            self.refuse(wrong, 2)

    def test_wrong_kinds(self):
        for wrong in wrong_things():
            self.refuse(wrong, 2)
        for wrong in ([0, "a", 0, ""], {0: "a", 1: 0}, {0, "a"}, "0a0b", Row([0, "a", 0, ""])):
            self.refuse(wrong, 2)

    def test_kinds_made_from_the_wanted_ones(self):
        for wrong in (Pair((0, "a", 0, "")), (Number(0), "a", 0, ""), (0, Text("a"), 0, ""), (0, "a", Number(0), ""),
                      (0, "a", 0, Text(""))):
            self.refuse(wrong, 2)

    def test_what_tells_no_number_of_states(self):
        for many in (True, False, None, "1", 1.0, [1]):
            self.refuse((0, "a", 0, ""), many)


class IsSpotTest(unittest.TestCase):
    def refuse(self, thing, many):
        self.assertIs(is_spot(thing, many), False)

    def test_spots(self):
        for pile in ("", "a", "zyx", "aabb", LETTERS, "a" * 500, "ab" * 251, "b" * 600):
            self.assertIs(is_spot((0, pile), 1), True)
            self.assertIs(is_spot((4, pile), 5), True)

    def test_each_state_is_one_of_so_many(self):
        for many in range(1, 6):
            for state in range(-2, 8):
                self.assertIs(is_spot((state, "a"), many), 0 <= state < many)

    def test_each_place_of_the_pile_is_a_sign(self):
        for number in range(256):
            sign = chr(number)
            for pile in (sign, sign + "a", "a" + sign, "a" * 250 + sign + "a" * 249):
                self.assertIs(is_spot((0, pile), 1), sign in LETTERS)

    def test_wrong_states(self):
        for wrong in wrong_numbers(3):
            self.refuse((wrong, "a"), 3)

    def test_wrong_piles(self):
        for wrong in wrong_piles():
            self.refuse((0, wrong), 3)

    def test_wrong_lengths(self):
        for wrong in ((), (0,), ("a",), (0, "a", ""), (0, "a", 0, "")):
            self.refuse(wrong, 3)

    def test_wrong_kinds(self):
        for wrong in wrong_things():
            self.refuse(wrong, 3)
        for wrong in ([0, "a"], {0: "a"}, {0: "a", 1: "b"}, {0, "a"}, "0a", ("a", 0), Row([0, "a"])):
            self.refuse(wrong, 3)

    def test_kinds_made_from_the_wanted_ones(self):
        for wrong in (Pair((0, "a")), (Number(0), "a"), (0, Text("a"))):
            self.refuse(wrong, 3)

    def test_what_tells_no_number_of_states(self):
        for many in (True, False, None, "1", 1.0, [1]):
            self.refuse((0, ""), many)


class AfterTest(unittest.TestCase):
    def test_pushes_of_none_one_and_two_signs(self):
        self.assertEqual(after((0, "a", 1, ""), (0, "abc")), (1, "bc"))
        self.assertEqual(after((0, "a", 1, "x"), (0, "abc")), (1, "xbc"))
        self.assertEqual(after((0, "a", 1, "xy"), (0, "abc")), (1, "xybc"))

    def test_the_last_sign(self):
        self.assertEqual(after((0, "a", 0, ""), (0, "a")), (0, ""))
        self.assertEqual(after((0, "a", 2, "ba"), (0, "a")), (2, "ba"))

    def test_only_the_top_is_seen(self):
        self.assertEqual(after((0, "a", 0, ""), (0, "aa")), (0, "a"))
        self.assertIsNone(after((0, "a", 0, ""), (0, "ba")))

    def test_does_not_go(self):
        self.assertIsNone(after((0, "a", 1, "b"), (1, "a")))
        self.assertIsNone(after((0, "a", 1, "b"), (0, "b")))
        self.assertIsNone(after((0, "a", 1, "b"), (0, "")))
        self.assertIsNone(after((1, "a", 1, ""), (0, "")))

    def test_piles_of_500_signs_and_more(self):
        self.assertEqual(after((0, "a", 0, "bb"), (0, "a" * 500)), (0, "bb" + "a" * 499))
        self.assertEqual(after((0, "a", 0, ""), (0, "a" * 505)), (0, "a" * 504))


class NextsTest(unittest.TestCase):
    def test_all_that_go_rising(self):
        rules = [(0, "a", 1, ""), (1, "a", 0, ""), (0, "b", 0, ""), (0, "a", 0, "bb"), (0, "a", 1, "")]
        wanted = [(0, (1, "b")), (3, (0, "bbb")), (4, (1, "b"))]
        self.assertEqual(nexts(rules, (0, "ab")), wanted)
        self.assertEqual(nexts(rules, (1, "b")), [])
        self.assertEqual(nexts(rules, (0, "")), [])
        self.assertEqual(nexts([], (0, "a")), [])

    def test_kinds(self):
        found = nexts([(0, "a", 0, "")], (0, "a"))
        self.assertEqual([type(found), type(found[0]), type(found[0][1])], [list, tuple, tuple])

    def test_the_told_list_is_the_askers_own(self):
        rules = [(0, "a", 0, ""), (0, "a", 0, "a")]
        nexts(rules, (0, "a")).clear()
        self.assertEqual(nexts(rules, (0, "a")), [(0, (0, "")), (1, (0, "a"))])
        self.assertEqual(rules, [(0, "a", 0, ""), (0, "a", 0, "a")])

    def test_against_plain_steps(self):
        for many, rules, _ in all_machines(60):
            for spot in plain.all_spots(many, "ab", 3):
                self.assertEqual(nexts(rules, spot), plain.steps_from(rules, spot))
                for number, rule in enumerate(rules):
                    self.assertEqual(after(rule, spot), dict(plain.steps_from(rules, spot)).get(number))
