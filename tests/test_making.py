"""Points 2, 3 and 5: making a reader, what is refused there, its rules, its rooms and its end."""

import unittest

from pilerun.errors import BadMachine, BadSpot
from pilerun.reader import Reader
from tests.samples import (Number, Pair, Row, Text, all_machines, told, wrong_numbers, wrong_piles, wrong_signs,
                           wrong_things)

RULE = (0, "a", 0, "")


class MakingTest(unittest.TestCase):
    def refuse(self, error, *handed):
        with self.assertRaises(error) as caught:
            Reader(*handed)
        self.assertIs(type(caught.exception), error)

    def test_names_of_the_arguments(self):
        reader = Reader(many=1, rules=[RULE], goal=(0, ""))
        arrow = (0, "a", 0)
        self.assertEqual(reader.weight(arrow=arrow), 1)
        self.assertEqual(reader.reason(arrow=arrow), (0, ()))
        self.assertEqual(reader.least(spot=(0, "a")), 1)
        self.assertEqual(reader.way(spot=(0, "a")), [arrow])
        self.assertEqual(reader.run(spot=(0, "a")), [0])
        self.assertEqual(reader.learn(rule=RULE), [])

    def test_one_to_five_states(self):
        for many in range(1, 6):
            self.assertEqual(Reader(many, [], (many - 1, "")).rooms(), many)
        for many in (0, -1, 6, 7, 10 ** 30, -5):
            self.refuse(BadMachine, many, [], (0, ""))

    def test_what_is_no_number(self):
        for wrong in wrong_things():
            self.refuse(BadMachine, wrong, [], (0, ""))
        for wrong in ("1", 1.0, [1], (1,), Number(1), {1: 1}):
            self.refuse(BadMachine, wrong, [], (0, ""))

    def test_what_is_no_list(self):
        for wrong in wrong_things():
            self.refuse(BadMachine, 1, wrong, (0, ""))
        for wrong in ((), (RULE,), {RULE: 0}, {0: RULE}, {RULE}, "", RULE, Row(), Row([RULE]), iter([RULE]), 12):
            self.refuse(BadMachine, 1, wrong, (0, ""))

    def test_at_most_twelve_rules(self):
        self.assertEqual(Reader(1, [], (0, "")).rules(), [])
        self.assertEqual(Reader(1, [RULE] * 11, (0, "")).rules(), [RULE] * 11)
        self.assertEqual(Reader(1, [RULE] * 12, (0, "")).rules(), [RULE] * 12)
        for count in (13, 14, 100):
            self.refuse(BadMachine, 1, [RULE] * count, (0, ""))

    def test_lists_with_what_is_no_rule(self):
        wrongs = wrong_things() + [list(RULE), RULE[:3], RULE + ("",), Pair(RULE), (0, "a", 0, Text("")), [RULE]]
        wrongs += [(wrong, "a", 0, "") for wrong in wrong_numbers(2)]
        wrongs += [(0, "a", wrong, "") for wrong in wrong_numbers(2)]
        wrongs += [(0, wrong, 0, "") for wrong in wrong_signs()]
        wrongs += [(0, "a", 0, wrong) for wrong in wrong_piles() + ["aaa"]]
        for wrong in wrongs:
            self.refuse(BadMachine, 2, [wrong], (0, ""))
            self.refuse(BadMachine, 2, [RULE, RULE, wrong], (0, ""))
            self.refuse(BadMachine, 2, [wrong, RULE], (0, ""))

    def test_a_list_that_holds_itself(self):
        rules = [RULE]
        rules.append(rules)
        self.refuse(BadMachine, 1, rules, (0, ""))

    def test_rules_of_a_greater_machine(self):
        self.refuse(BadMachine, 1, [(1, "a", 0, "")], (0, ""))
        self.refuse(BadMachine, 4, [(0, "a", 4, "")], (0, ""))
        self.assertEqual(Reader(5, [(0, "a", 4, "")], (0, "")).rules(), [(0, "a", 4, "")])

    def test_what_is_no_goal(self):
        wrongs = wrong_things() + [[0, ""], (0,), ("",), (0, "", ""), ("", 0), Pair((0, "")), (0, Text(""))]
        wrongs += [(wrong, "") for wrong in wrong_numbers(2)]
        wrongs += [(0, wrong) for wrong in wrong_piles()]
        for wrong in wrongs:
            self.refuse(BadSpot, 2, [RULE], wrong)

    def test_goals_of_at_most_four_signs(self):
        for length in range(5):
            self.assertEqual(Reader(2, [], (1, "a" * length)).rooms(), 2 + length)
        for length in (5, 6, 500, 501):
            self.refuse(BadSpot, 2, [], (1, "a" * length))

    def test_what_is_told_first_is_refused(self):
        self.refuse(BadMachine, 0, None, None)
        self.refuse(BadMachine, 6, [], (7, ""))
        self.refuse(BadMachine, 1, None, None)
        self.refuse(BadMachine, 1, [None], (0, "aaaaa"))
        self.refuse(BadMachine, 1, [RULE] * 13, (1, ""))
        self.refuse(BadSpot, 1, [RULE] * 12, (1, ""))

    def test_the_list_is_not_changed(self):
        rules = [RULE, (0, "b", 0, "ab")]
        Reader(1, rules, (0, "ab"))
        self.assertEqual(rules, [RULE, (0, "b", 0, "ab")])


class RoomsTest(unittest.TestCase):
    def test_rooms_and_end(self):
        for many, goal, rooms, end in (
                (3, (1, "xyz"), 6, 5), (3, (1, ""), 3, 1), (3, (2, ""), 3, 2), (1, (0, ""), 1, 0),
                (1, (0, "a"), 2, 1), (5, (0, "aaaa"), 9, 8), (5, (4, ""), 5, 4), (2, (1, "aa"), 4, 3)):
            reader = Reader(many, [], goal)
            self.assertEqual((reader.rooms(), reader.end()), (rooms, end))
            self.assertEqual((type(reader.rooms()), type(reader.end())), (int, int))

    def test_rules_have_no_part_in_them(self):
        for many, rules, goal in all_machines(40):
            reader, bare = Reader(many, rules, goal), Reader(many, [], goal)
            self.assertEqual((reader.rooms(), reader.end()), (bare.rooms(), bare.end()))
            self.assertEqual(reader.rules(), rules)
            self.assertEqual(told(reader), told(Reader(many, rules, goal)))
