"""Points 4 and 11 to 13: the least number of steps, ways and runs."""

import unittest

from pilerun.errors import BadSpot, NoRun, TooLong
from pilerun.reader import MOST_STEPS, Reader
from tests import plain
from tests.samples import (Number, Pair, Text, all_machines, popping, told, told_of, wrong_numbers, wrong_piles,
                           wrong_things)


class LeastTest(unittest.TestCase):
    def test_the_goal_itself(self):
        for many, rules, goal in all_machines(60):
            reader = Reader(many, rules, goal)
            self.assertEqual(told_of(reader, goal), (0, plain.own_arrows(many, goal), []))

    def test_no_rules(self):
        reader = Reader(2, [], (1, "ab"))
        for spot in plain.all_spots(2, "abc", 3):
            self.assertEqual(reader.least(spot), 0 if spot == (1, "ab") else None)

    def test_signs_that_no_rule_has(self):
        self.assertIsNone(popping().least((0, "az")))
        self.assertEqual(Reader(1, [(0, "a", 0, "")], (0, "z")).least((0, "aaz")), 2)

    def test_by_search_from_spot_to_spot(self):
        most = 6
        for many, rules, goal in all_machines(100, seed=11):
            reader = Reader(many, rules, goal)
            for spot in plain.all_spots(many, "ab", 3):
                least = reader.least(spot)
                if least is not None and least > most:
                    least = None
                self.assertEqual(least, plain.fewest_steps(rules, spot, goal, most))

    def test_by_the_least_way(self):
        for many, rules, goal in all_machines(120, seed=12):
            reader = Reader(many, rules, goal)
            weights = plain.all_weights(many, rules, goal)
            for spot in plain.all_spots(many, "ab", 3):
                way = plain.least_way(many, goal, weights, spot)
                wanted = None if way is None else sum(weights[arrow] for arrow in way)
                self.assertEqual(reader.least(spot), wanted)


class WayTest(unittest.TestCase):
    def test_an_empty_pile(self):
        reader = popping()
        self.assertEqual(told_of(reader, (0, "")), (0, [], []))
        self.assertEqual(reader.way((0, "")), [])

    def test_of_several_the_least_rooms(self):
        rules = [(0, "a", 2, ""), (0, "a", 1, ""), (1, "b", 0, ""), (2, "b", 0, "")]
        reader = Reader(3, rules, (0, ""))
        self.assertEqual(reader.way((0, "ab")), [(0, "a", 1), (1, "b", 0)])
        self.assertEqual(reader.run((0, "ab")), [1, 2])

    def test_the_first_room_counts_most(self):
        rules = [(0, "a", 1, ""), (0, "a", 0, ""), (0, "a", 2, ""), (1, "b", 2, ""), (0, "b", 2, ""),
                 (2, "b", 0, ""), (2, "c", 2, ""), (0, "c", 2, "")]
        reader = Reader(3, rules, (2, ""))
        self.assertEqual(reader.way((0, "abc")), [(0, "a", 0), (0, "b", 2), (2, "c", 2)])

    def test_the_weight_is_asked_ahead_of_the_rooms(self):
        rules = [(0, "a", 1, "d"), (1, "d", 1, ""), (0, "a", 2, ""), (1, "b", 0, ""), (2, "b", 0, "")]
        reader = Reader(3, rules, (0, ""))
        self.assertEqual(reader.way((0, "ab")), [(0, "a", 2), (2, "b", 0)])

    def test_kinds(self):
        way = Reader(1, [(0, "a", 0, "")], (0, "b")).way((0, "aab"))
        self.assertEqual(way, [(0, "a", 0), (0, "a", 0), (0, "b", 1)])
        self.assertEqual([type(way), type(way[0])], [list, tuple])

    def test_by_the_words(self):
        for many, rules, goal in all_machines(120, seed=13):
            reader = Reader(many, rules, goal)
            weights = plain.all_weights(many, rules, goal)
            for spot in plain.all_spots(many, "ab", 3):
                way = plain.least_way(many, goal, weights, spot)
                if way is None:
                    self.assertRaises(NoRun, reader.way, spot)
                else:
                    self.assertEqual(reader.way(spot), way)

    def test_higher_piles_by_the_words(self):
        for many, rules, goal in all_machines(12, seed=14, most_states=3, most_rules=12, most_goal=1):
            reader = Reader(many, rules, goal)
            weights = plain.all_weights(many, rules, goal)
            for spot in [(state, pile) for state in range(many) for pile in ("aaaaa", "ababa", "bbaab")]:
                way = plain.least_way(many, goal, weights, spot)
                if way is not None:
                    self.assertEqual(reader.way(spot), way)


class RunTest(unittest.TestCase):
    def test_it_leads_to_the_goal_in_just_so_many(self):
        for many, rules, goal in all_machines(150, seed=21):
            reader = Reader(many, rules, goal)
            for spot in plain.all_spots(many, "ab", 4):
                least = reader.least(spot)
                if least is not None and least <= MOST_STEPS:
                    run = reader.run(spot)
                    self.assertEqual(len(run), least)
                    self.assertEqual(plain.walk(rules, spot, run), goal)

    def test_by_the_words(self):
        for many, rules, goal in all_machines(100, seed=22):
            reader = Reader(many, rules, goal)
            reasons = {arrow: reader.reason(arrow) for arrow in reader.arrows()}
            for spot in plain.all_spots(many, "ab", 3):
                if reader.least(spot) is not None:
                    wanted = []
                    for arrow in reader.way(spot):
                        wanted += plain.steps_of(arrow, reasons)
                    self.assertEqual(reader.run(spot), wanted)

    def test_kinds(self):
        run = popping().run((0, "aa"))
        self.assertEqual([type(run), type(run[0])], [list, int])

    def test_500_and_501_steps(self):
        reader = popping()
        self.assertEqual(reader.run((0, "a" * 499)), [0] * 499)
        self.assertEqual(reader.run((0, "a" * 500)), [0] * 500)
        for length in (501, 502, 600):
            spot = (0, "a" * length)
            with self.assertRaises(TooLong) as caught:
                reader.run(spot)
            self.assertIs(type(caught.exception), TooLong)
            self.assertEqual(reader.least(spot), length)
            self.assertEqual(reader.way(spot), [(0, "a", 0)] * length)

    def test_500_and_501_steps_from_low_piles(self):
        signs = "abcdefgh"
        rules = [(0, "a", 0, "")] + [(0, signs[at], 0, signs[at - 1] * 2) for at in range(1, 8)]
        reader = Reader(1, rules, (0, ""))
        self.assertEqual(reader.least((0, "hgfedcaa")), 500)
        self.assertEqual(plain.walk(rules, (0, "hgfedcaa"), reader.run((0, "hgfedcaa"))), (0, ""))
        self.assertEqual(reader.least((0, "hgfedcaaa")), 501)
        self.assertRaises(TooLong, reader.run, (0, "hgfedcaaa"))

    def test_the_goals_own_arrows_take_no_steps(self):
        reader = Reader(1, [(0, "a", 0, "")], (0, "bbbb"))
        self.assertEqual(reader.run((0, "a" * 500 + "bbbb")), [0] * 500)
        self.assertEqual(len(reader.way((0, "a" * 500 + "bbbb"))), 504)
        self.assertRaises(TooLong, reader.run, (0, "a" * 501 + "bbbb"))

    def test_reasons_in_reasons_down_to_every_rule(self):
        signs = "abcdefghijkl"
        rules = [(0, "a", 0, "")] + [(0, signs[at], 0, signs[at - 1]) for at in range(1, 12)]
        reader = Reader(1, rules, (0, ""))
        self.assertEqual(reader.run((0, "la")), [11, 10, 9, 8, 7, 6, 5, 4, 3, 2, 1, 0, 0])


class HighPilesTest(unittest.TestCase):
    def test_piles_of_500_signs_and_more(self):
        rules = [(state, "a", (state + 1) % 5, "") for state in range(5)] + [(0, "b", 0, "aa"), (1, "b", 4, "")]
        reader = Reader(5, rules, (3, "ab"))
        for length in (500, 501, 540):
            pile = "a" * (length - 2) + "ab"
            for state in range(5):
                spot = (state, pile)
                if (state + length - 2) % 5 == 3:
                    self.assertEqual(reader.least(spot), length - 2)
                    self.assertEqual(len(reader.way(spot)), length)
                else:
                    self.assertIsNone(reader.least(spot))
                    self.assertRaises(NoRun, reader.way, spot)
                    self.assertRaises(NoRun, reader.run, spot)

    def test_a_tie_over_a_high_pile(self):
        rules = [(at, "a", to, "") for at in range(3) for to in (2, 1, 0)]
        reader = Reader(3, rules, (2, ""))
        spot = (1, "a" * 500)
        self.assertEqual(reader.way(spot), [(1, "a", 0)] + [(0, "a", 0)] * 498 + [(0, "a", 2)])
        self.assertEqual(reader.run(spot), [5] + [2] * 498 + [0])


class NotReadTest(unittest.TestCase):
    def test_each_step_from_a_spot_that_is_not_read_leads_to_one_that_is_not(self):
        for many, rules, goal in all_machines(150, seed=31):
            reader = Reader(many, rules, goal)
            for spot in plain.all_spots(many, "ab", 4):
                if reader.least(spot) is None:
                    for _, behind in plain.steps_from(rules, spot):
                        self.assertIsNone(reader.least(behind))

    def test_each_step_is_no_more_than_one_nearer(self):
        for many, rules, goal in all_machines(150, seed=32):
            reader = Reader(many, rules, goal)
            for spot in plain.all_spots(many, "ab", 4):
                nearest = [reader.least(behind) for _, behind in plain.steps_from(rules, spot)]
                nearest = [least for least in nearest if least is not None]
                if spot == goal:
                    self.assertEqual(reader.least(spot), 0)
                elif nearest:
                    self.assertEqual(reader.least(spot), 1 + min(nearest))
                else:
                    self.assertIsNone(reader.least(spot))

    def test_no_steps_lead_there(self):
        reader = Reader(2, [(0, "a", 0, "a"), (1, "a", 1, "")], (1, ""))
        for spot in ((0, ""), (0, "a"), (0, "aa"), (1, "b"), (1, "ab")):
            self.assertIsNone(reader.least(spot))
            for ask in (reader.way, reader.run):
                with self.assertRaises(NoRun) as caught:
                    ask(spot)
                self.assertIs(type(caught.exception), NoRun)


class BadSpotTest(unittest.TestCase):
    def refuse(self, reader, wrong):
        before = told(reader)
        for ask in (reader.least, reader.way, reader.run):
            with self.assertRaises(BadSpot) as caught:
                ask(wrong)
            self.assertIs(type(caught.exception), BadSpot)
        self.assertEqual(told(reader), before)

    def test_wrong_kinds(self):
        for wrong in wrong_things() + [[0, "a"], {0: "a"}, Pair((0, "a")), "0a", ("a", 0)]:
            self.refuse(popping(), wrong)

    def test_wrong_lengths(self):
        for wrong in ((), (0,), ("a",), (0, "a", 0), (0, "a", "")):
            self.refuse(popping(), wrong)

    def test_wrong_states(self):
        for wrong in wrong_numbers(1) + [Number(0)]:
            self.refuse(popping(), (wrong, "a"))

    def test_states_of_a_greater_machine(self):
        for many in range(1, 6):
            reader = Reader(many, [(0, "a", 0, "")], (0, "ab"))
            for wrong in range(many, 8):
                self.refuse(reader, (wrong, "a"))

    def test_wrong_piles(self):
        for wrong in wrong_piles() + [Text("a"), "a" * 500 + "A"]:
            self.refuse(popping(), (0, wrong))

    def test_wrong_spots_come_ahead_of_all_else(self):
        self.refuse(Reader(1, [], (0, "a")), (1, "a" * 501))
        self.refuse(popping(), (1, "a" * 501))
