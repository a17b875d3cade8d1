"""Point 1: what is handed in is not changed, and what is told is the asker's own."""

import unittest

from pilerun.errors import PileError
from pilerun.reader import Reader
from tests import plain
from tests.samples import Shy, all_machines, told, told_of


def small_reader():
    rules = [(0, "a", 1, ""), (1, "a", 0, "bb"), (0, "b", 0, ""), (0, "b", 1, "a")]
    return Reader(2, rules, (0, "ab"))


def spoil(rows):
    """Change a list in each way that there is."""
    rows.append(None)
    rows[0] = "spoiled"
    rows.reverse()
    rows.clear()


class OwnListsTest(unittest.TestCase):
    def test_the_list_of_rules_changed_behind_the_making(self):
        for many, rules, goal in all_machines(40, seed=51):
            handed = list(rules)
            reader = Reader(many, handed, goal)
            spoil(handed)
            self.assertEqual(told(reader), told(Reader(many, rules, goal)))
            if len(rules) < 12:
                reader.learn((0, "a", 0, ""))
            self.assertEqual(handed, [])

    def test_learning_leaves_the_list_of_rules_alone(self):
        rules = [(0, "a", 0, "b")]
        reader = Reader(1, rules, (0, ""))
        reader.learn((0, "b", 0, ""))
        self.assertEqual(rules, [(0, "a", 0, "b")])

    def test_told_lists_are_spoiled_and_asked_again(self):
        reader = small_reader()
        spot = (0, "bbbab")
        asks = [reader.rules, reader.arrows, lambda: reader.way(spot), lambda: reader.run(spot)]
        before = told(reader), told_of(reader, spot)
        self.assertIsNotNone(before[1])
        for ask in asks:
            first = ask()
            self.assertTrue(first)
            self.assertIsNot(first, ask())
            spoil(first)
            self.assertEqual((told(reader), told_of(reader, spot)), before)
        self.assertEqual(told(reader), told(small_reader()))

    def test_told_lists_do_not_change_behind(self):
        reader = small_reader()
        spot = (0, "bab")
        rules, arrows, way, run = reader.rules(), reader.arrows(), reader.way(spot), reader.run(spot)
        kept = list(rules), list(arrows), list(way), list(run)
        came = reader.learn((1, "b", 0, ""))
        kept_came = list(came)
        reader.learn((1, "c", 1, ""))
        told(reader)
        told_of(reader, spot)
        self.assertEqual((rules, arrows, way, run), kept)
        self.assertEqual(came, kept_came)
        self.assertTrue(came)

    def test_the_list_that_learn_tells_is_spoiled(self):
        reader = small_reader()
        spoil(reader.learn((1, "b", 0, "")))
        made = Reader(2, small_reader().rules() + [(1, "b", 0, "")], (0, "ab"))
        self.assertEqual(told(reader), told(made))

    def test_the_empty_way_and_run_are_spoiled(self):
        reader = Reader(1, [(0, "a", 0, "")], (0, ""))
        reader.way((0, "")).append("spoiled")
        reader.run((0, "")).append("spoiled")
        Reader(1, [], (0, "")).arrows().append("spoiled")
        self.assertEqual(told_of(reader, (0, "")), (0, [], []))
        self.assertEqual(Reader(1, [], (0, "")).arrows(), [])

    def test_reasons_hold_nothing_that_can_change(self):
        for many, rules, goal in all_machines(20, seed=52):
            reader = Reader(many, rules, goal)
            for arrow in reader.arrows():
                hash(reader.reason(arrow))

    def test_readers_have_no_part_in_each_other(self):
        rules = [(0, "a", 0, "b")]
        one, other = Reader(1, rules, (0, "")), Reader(1, rules, (0, ""))
        one.learn((0, "b", 0, ""))
        self.assertEqual(told(other), told(Reader(1, rules, (0, ""))))
        self.assertNotEqual(told(one), told(other))

    def test_asking_changes_nothing(self):
        for many, rules, goal in all_machines(20, seed=53):
            reader = Reader(many, rules, goal)
            before = told(reader)
            answers = [told_of(reader, spot) for spot in plain.all_spots(many, "ab", 3)]
            self.assertEqual([told_of(reader, spot) for spot in plain.all_spots(many, "ab", 3)], answers)
            self.assertEqual(told(reader), before)

    def test_refusals_change_nothing(self):
        reader = small_reader()
        for ask in (reader.weight, reader.reason, reader.least, reader.way, reader.run, reader.learn):
            for wrong in (None, True, [], {}, (0, []), ([], "a", 0), ([], "a", 0, ""), Shy()):
                self.assertRaises(PileError, ask, wrong)
        self.assertEqual(told(reader), told(small_reader()))
