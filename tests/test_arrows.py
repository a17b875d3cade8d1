"""Points 6 to 10: arrows, their weights and their reasons."""

import unittest

from pilerun.errors import NoArrow
from pilerun.reader import Reader
from tests import plain
from tests.samples import (Number, Pair, Shy, Text, all_machines, told, wrong_numbers, wrong_piles, wrong_signs,
                           wrong_things)


class OwnArrowsTest(unittest.TestCase):
    def test_the_goal_of_the_document(self):
        reader = Reader(3, [], (1, "xyz"))
        self.assertEqual(reader.arrows(), [(1, "x", 3), (3, "y", 4), (4, "z", 5)])

    def test_no_sign_one_sign_and_a_sign_twice(self):
        self.assertEqual(Reader(2, [], (1, "")).arrows(), [])
        self.assertEqual(Reader(2, [], (1, "a")).arrows(), [(1, "a", 2)])
        self.assertEqual(Reader(1, [], (0, "aaba")).arrows(), [(0, "a", 1), (1, "a", 2), (2, "b", 3), (3, "a", 4)])

    def test_they_weigh_nothing_and_have_no_reason(self):
        for many, rules, goal in all_machines(60):
            reader = Reader(many, rules, goal)
            for arrow in plain.own_arrows(many, goal):
                self.assertEqual(reader.weight(arrow), 0)
                self.assertIsNone(reader.reason(arrow))

    def test_a_rule_brings_one_of_them_again(self):
        reader = Reader(1, [(0, "a", 0, "a"), (0, "b", 0, "a")], (0, "a"))
        self.assertEqual(told(reader)["arrows"], [((0, "a", 1), 0, None), ((0, "b", 1), 1, (1, ((0, "a", 1),)))])


class ArrowsTest(unittest.TestCase):
    def test_pushes_of_none_one_and_two_signs(self):
        rules = [(0, "a", 1, ""), (1, "b", 0, "a"), (1, "c", 0, "ab")]
        reader = Reader(2, rules, (0, "d"))
        self.assertEqual(told(reader)["arrows"], [
            ((0, "a", 1), 1, (0, ())),
            ((0, "d", 2), 0, None),
            ((1, "b", 1), 2, (1, ((0, "a", 1),))),
            ((1, "c", 1), 4, (2, ((0, "a", 1), (1, "b", 1)))),
        ])

    def test_what_only_brings_itself_does_not_come(self):
        self.assertEqual(Reader(1, [(0, "a", 0, "a"), (0, "b", 0, "bb")], (0, "")).arrows(), [])
        self.assertEqual(Reader(2, [(0, "a", 1, "a"), (1, "a", 0, "a")], (0, "b")).arrows(), [(0, "b", 2)])

    def test_kinds(self):
        reader = Reader(1, [(0, "a", 0, ""), (0, "b", 0, "aa")], (0, ""))
        self.assertEqual(type(reader.arrows()), list)
        for arrow in reader.arrows():
            self.assertEqual([type(part) for part in arrow], [int, str, int])
            self.assertEqual(type(reader.weight(arrow)), int)
            self.assertEqual([type(part) for part in reader.reason(arrow)], [int, tuple])

    def test_great_weights(self):
        signs = "abcdefghijkl"
        rules = [(0, "a", 0, "")] + [(0, signs[at], 0, signs[at - 1] * 2) for at in range(1, 12)]
        reader = Reader(1, rules, (0, ""))
        self.assertEqual([reader.weight((0, sign, 0)) for sign in signs], [2 ** (at + 1) - 1 for at in range(12)])
        self.assertEqual(reader.least((0, "l" * 500)), 500 * 4095)

    def test_they_rise(self):
        for many, rules, goal in all_machines(60):
            arrows = Reader(many, rules, goal).arrows()
            self.assertTrue(all(one < other for one, other in zip(arrows, arrows[1:])))

    def test_arrows_and_weights_by_the_words(self):
        for many, rules, goal in all_machines(250):
            reader = Reader(many, rules, goal)
            weights = plain.all_weights(many, rules, goal)
            self.assertEqual(reader.arrows(), sorted(weights))
            self.assertEqual({arrow: reader.weight(arrow) for arrow in reader.arrows()}, weights)

    def test_arrows_of_larger_machines_by_the_words(self):
        for many, rules, goal in all_machines(25, seed=5, most_states=5, most_rules=12, signs="abc", most_goal=4):
            reader = Reader(many, rules, goal)
            self.assertEqual({arrow: reader.weight(arrow) for arrow in reader.arrows()},
                             plain.all_weights(many, rules, goal))

    def test_arrows_and_weights_by_search_from_spot_to_spot(self):
        most = 6
        for many, rules, goal in all_machines(100, seed=2):
            reader = Reader(many, rules, goal)
            arrows = reader.arrows()
            for state, sign, room in [(s, a, r) for s in range(many) for a in "ab" for r in range(reader.rooms())]:
                target = (room, "") if room < many else (goal[0], goal[1][:room - many + 1])
                weight = reader.weight((state, sign, room)) if (state, sign, room) in arrows else None
                if weight is not None and weight > most:
                    weight = None
                self.assertEqual(plain.fewest_steps(rules, (state, sign), target, most), weight)


class ReasonTest(unittest.TestCase):
    def test_of_several_rules_the_least_number(self):
        reader = Reader(1, [(0, "b", 0, "a"), (0, "a", 0, "b"), (0, "a", 0, ""), (0, "a", 0, "")], (0, ""))
        self.assertEqual(reader.reason((0, "a", 0)), (2, ()))
        self.assertEqual(reader.reason((0, "b", 0)), (0, ((0, "a", 0),)))

    def test_the_weight_is_asked_ahead_of_the_number(self):
        reader = Reader(1, [(0, "b", 0, "aa"), (0, "a", 0, ""), (0, "b", 0, "a")], (0, ""))
        self.assertEqual(reader.reason((0, "b", 0)), (2, ((0, "a", 0),)))

    def test_of_several_ways_the_least(self):
        rules = [(0, "a", 2, ""), (0, "a", 1, ""), (1, "b", 0, ""), (2, "b", 0, ""), (2, "c", 0, "ab")]
        reader = Reader(3, rules, (0, ""))
        self.assertEqual(reader.reason((2, "c", 0)), (4, ((0, "a", 1), (1, "b", 0))))

    def test_the_weight_is_asked_ahead_of_the_way(self):
        rules = [(0, "a", 2, ""), (0, "a", 1, "d"), (1, "d", 1, ""), (1, "b", 0, ""), (2, "b", 0, ""),
                 (2, "c", 0, "ab")]
        reader = Reader(3, rules, (0, ""))
        self.assertEqual(reader.reason((2, "c", 0)), (5, ((0, "a", 2), (2, "b", 0))))

    def test_by_the_words(self):
        for many, rules, goal in all_machines(250, seed=3):
            reader = Reader(many, rules, goal)
            weights = plain.all_weights(many, rules, goal)
            for arrow in reader.arrows():
                self.assertEqual(reader.reason(arrow), plain.least_reason(many, rules, goal, weights, arrow))

    def test_of_larger_machines_by_the_words(self):
        for many, rules, goal in all_machines(25, seed=6, most_states=5, most_rules=12, most_goal=4):
            reader = Reader(many, rules, goal)
            weights = plain.all_weights(many, rules, goal)
            for arrow in reader.arrows():
                self.assertEqual(reader.reason(arrow), plain.least_reason(many, rules, goal, weights, arrow))


class NoArrowTest(unittest.TestCase):
    def setUp(self):
        self.reader = Reader(2, [(0, "a", 1, ""), (1, "a", 0, "aa")], (1, "ab"))

    def refuse(self, wrong):
        before = told(self.reader)
        for ask in (self.reader.weight, self.reader.reason):
            with self.assertRaises(NoArrow) as caught:
                ask(wrong)
            self.assertIs(type(caught.exception), NoArrow)
        self.assertEqual(told(self.reader), before)

    def test_arrows_that_it_has_not(self):
        arrows = self.reader.arrows()
        self.assertEqual(self.reader.weight((0, "a", 1)), 1)
        for arrow in [(room, sign, other) for room in range(6) for sign in "abz" for other in range(6)]:
            if arrow not in arrows:
                self.refuse(arrow)

    def test_wrong_kinds(self):
        for wrong in wrong_things() + [[0, "a", 1], {0: "a"}, Pair((0, "a", 1)), (0, "a"), (0, "a", 1, 1), "0a1"]:
            self.refuse(wrong)

    def test_wrong_rooms(self):
        for wrong in wrong_numbers(4):
            self.refuse((wrong, "a", 1))
            self.refuse((0, "a", wrong))
        for wrong in (True, 1.0, Number(1)):
            self.refuse((0, "a", wrong))
        for wrong in (False, 0.0, Number(0)):
            self.refuse((wrong, "a", 1))

    def test_wrong_signs(self):
        for wrong in wrong_signs() + wrong_piles() + [Text("a"), "aa", [], Shy()]:
            self.refuse((0, wrong, 1))
