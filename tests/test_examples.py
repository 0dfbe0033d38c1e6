"""The examples of sections 3 and 4 of the document, as far as they use only errors, houses and scripts."""

import doctest
import pathlib
import unittest

from giveways.errors import NotReady, Unfit
from giveways.houses import (
    after, begin, gone_on, longest_wait, marks, next_step, own_run, ready, rounds, run_by, told, turn, who_waits,
)
from giveways.scripts import (
    closer_of, first_tasks, hosts_above, room_of, shields_at, starter_of, with_step, without_step,
)


class Section3(unittest.TestCase):
    house = ((("a", "", (("put", "q"), ("set", "s"))), ("b", "", (("get", "q", ()),)), ("c", "", (("hear", "s", 2),))),
             (), (("q", 1),))

    def test_ready_and_whole_runs(self):
        house = self.house
        state = begin(house)
        self.assertEqual(
            (ready(house, state), next_step(house, state, "c"), ready(house, turn(house, state, "a")), own_run(house),
             rounds(house), run_by(house, ("c", "b", "a"))),
            (("a",), ("hear", "s", 2), ("a", "b"), ("a", "b", "a", "c"), (("a",), ("a", "b"), ("c",)),
             ("a", "b", "a", "c")))

    def test_told(self):
        self.assertEqual(told(self.house, ("a", "b", "a", "c")), (
            0,
            (("a", "ended", 2, (), (), (), (("put", 0),)), ("b", "ended", 1, (), (), (), (("got", ("a", 0)),)),
             ("c", "ended", 1, (), (), (), (("heard", ("a", 1)),))),
            (("q", (), 1),), (("s", ("a", 1)),)))

    def test_marks_and_waits(self):
        house = self.house
        self.assertEqual(
            (marks(house, ("a", "a", "c")), longest_wait(house, ("a", "a", "c", "b")),
             who_waits(house, ("a", "a", "c", "b"), 1), gone_on(house, ("a",))),
            ((("a", 0), ("a", 1), ("c", 0)), 2, ("b",), ("a", "a", "b", "c")))

    def test_settled_at_the_beginning(self):
        self.assertEqual(begin(((("c", "", (("hear", "s", 2),)),), (), ())),
                         (2, (("c", "going", 0, (), (), (), ()),), (), (("s", ()),)))

    def test_not_ready(self):
        with self.assertRaises(NotReady) as caught:
            after(self.house, ("a", "c"))
        self.assertEqual(caught.exception.name, "c")


class Section4(unittest.TestCase):
    hall = ((("a", "", (("start", "b"), ("put", "q"), ("close", "g"))), ("b", "g", (("get", "q", ()), ("fail", "w")))),
            (("g", "a"),), ())

    def test_what_it_holds(self):
        hall = self.hall
        self.assertEqual(
            (first_tasks(hall), starter_of(hall, "b"), closer_of(hall, "g"), hosts_above(hall, "b"), room_of(hall, "q")),
            (("a",), ("a", 0), ("a", 2), ("a",), 0))

    def test_shields(self):
        house = ((("a", "", (("in",), ("get", "q", 3), ("out",))),), (), (("q", 2),))
        self.assertEqual(shields_at(house, "a", 1), 1)

    def test_changes(self):
        self.assertEqual(
            (with_step(self.hall, "b", 0, ("give",))[0][1], without_step(self.hall, "a", 1)[0][0]),
            (("b", "g", (("give",), ("get", "q", ()), ("fail", "w"))), ("a", "", (("start", "b"), ("close", "g")))))

    def test_unfit(self):
        with self.assertRaises(Unfit):
            without_step(self.hall, "a", 0)


class Readme(unittest.TestCase):
    def test_its_examples(self):
        path = pathlib.Path(__file__).resolve().parent.parent / "README.md"
        told = doctest.testfile(str(path), module_relative=False)
        self.assertEqual(told.failed, 0)
        self.assertGreater(told.attempted, 0)
