"""How the clock goes on: the settling of a STATE [4]."""

import unittest

from giveways.houses import after, begin, is_done, ready, states
from tests.made import built


class Clock(unittest.TestCase):
    def clocks(self, house, *choices):
        return [state[0] for state in states(house, choices)]

    def test_at_the_beginning(self):
        self.assertEqual(begin(built({"a": [("until", 5)]}))[0], 5)
        self.assertEqual(begin(built({"a": [("until", 0)]}))[0], 0)
        self.assertEqual(begin(built({"a": [("until", 5)], "b": [("hear", "s", 3)], "c": [("get", "q", 4)]}))[0], 3)
        self.assertEqual(begin(built({"a": [("until", 5)], "b": [("join", "a", 2)]}))[0], 2)
        self.assertEqual(begin(built({"a": [("until", 10 ** 30)]}))[0], 10 ** 30)

    def test_it_waits_while_somebody_is_ready(self):
        house = built({"a": [("until", 5)], "b": [("give",), ("give",)]})
        self.assertEqual(self.clocks(house, "b", "b", "a"), [0, 0, 5, 5])

    def test_it_stands_if_nobody_has_a_moment(self):
        house = built({"a": [("hear", "s", ()), ("until", 3)], "b": [("until", 2), ("get", "q", ())]})
        self.assertEqual(self.clocks(house, "b"), [2, 2])
        self.assertTrue(is_done(house, after(house, ("b",))))

    def test_only_next_steps_of_going_tasks_count(self):
        house = built({"a": [("until", 9), ("start", "b"), ("until", 7)], "b": [("until", 3)],
                       "c": [("give",), ("until", 12)], "d": [("cancel", "e")], "e": [("until", 4)]})
        self.assertEqual(self.clocks(house, "d", "c"), [0, 0, 9])
        self.assertEqual(ready(house, after(house, ("d", "c"))), ("a",))
        self.assertEqual(self.clocks(house, "d", "c", "a", "a", "a", "b", "c"), [0, 0, 9, 9, 9, 9, 12, 12])

    def test_it_goes_to_the_least_and_makes_that_ready(self):
        house = built({"a": [("get", "q", 4)], "b": [("until", 6), ("put", "q")], "c": [("hear", "s", 4)]})
        self.assertEqual(ready(house, begin(house)), ("a", "c"))
        self.assertEqual(self.clocks(house, "c", "a", "b", "b"), [4, 4, 6, 6, 6])

    def test_a_stop_lets_it_go_on(self):
        house = built({"a": [("cancel", "b")], "b": [("get", "q", 3)], "c": [("until", 8)]})
        self.assertEqual(self.clocks(house, "a"), [0, 8])

    def test_words_without_ends_do_not_count(self):
        house = built({"a": [("start", "b"), ("catch", "g")], "b in g": [("get", "q", ())], "c": [("put", "r")] * 2},
                      {"g": "a"}, {"r": 1})
        self.assertEqual(self.clocks(house, "a", "c"), [0, 0, 0])
        self.assertTrue(is_done(house, after(house, ("a", "c"))))

    def test_a_task_over_does_not_count(self):
        house = built({"a": [("start", "b"), ("start", "c"), ("catch", "g")], "b in g": [("until", 2)],
                       "c in g": [("fail", "w")]}, {"g": "a"})
        self.assertEqual(self.clocks(house, "a", "a", "c", "a"), [0, 0, 0, 0, 0])
