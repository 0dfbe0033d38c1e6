"""HOUSES changed in one place [5], and changed back."""

import unittest

from giveways.errors import Known, NoStep, NoTask, Unfit
from giveways.scripts import (
    all_marks, is_house, room_of, script_of, step_of, task_names, with_room, with_script, with_step, with_task,
    without_step, without_task,
)
from tests.made import built, listed, made_house

HALL = built({"a": [("start", "b"), ("put", "q"), ("close", "g")], "b in g": [("get", "q", ()), ("fail", "w")]},
             {"g": "a"}, {"p": 3})


class WithStep(unittest.TestCase):
    def test_at_each_number(self):
        steps = script_of(HALL, "a")
        for number in range(4):
            told = with_step(HALL, "a", number, ("give",))
            self.assertEqual(script_of(told, "a"), steps[:number] + (("give",),) + steps[number:])
            self.assertEqual((told[0][1], told[1], told[2]), (HALL[0][1], HALL[1], HALL[2]))

    def test_in_an_empty_script(self):
        self.assertEqual(with_step(built({"z": []}), "z", 0, ("until", 3)), built({"z": [("until", 3)]}))

    def test_refused(self):
        for number in (4, -1, 10 ** 20):
            with self.assertRaises(NoStep) as caught:
                with_step(HALL, "a", number, ("give",))
            self.assertEqual(caught.exception.number, number)
        for step in (("in",), ("out",), ("start", "b"), ("close", "g"), ("catch", "g"), ("join", "a", ()),
                     ("cancel", "c"), ("close", "h"), ("start", "a")):
            with self.assertRaises(Unfit):
                with_step(HALL, "a", 1, step)

    def test_order_of_errors(self):
        with self.assertRaises(NoTask) as caught:
            with_step(HALL, "z", 9, ("out",))
        self.assertEqual(caught.exception.name, "z")
        with self.assertRaises(NoStep) as caught:
            with_step(HALL, "b", 3, ("out",))
        self.assertEqual(caught.exception.number, 3)

    def test_a_task_named_by_the_step_alone_is_unfit(self):
        with self.assertRaises(Unfit):
            with_step(HALL, "a", 0, ("join", "z", ()))

    def test_lists(self):
        told = with_step(listed(HALL), "b", 1, ["join", "a", []])
        self.assertEqual(told, with_step(HALL, "b", 1, ("join", "a", ())))
        self.assertEqual(told[0][1], ("b", "g", (("get", "q", ()), ("join", "a", ()), ("fail", "w"))))


class WithoutStep(unittest.TestCase):
    def test_each_number(self):
        self.assertEqual(script_of(without_step(HALL, "a", 1), "a"), (("start", "b"), ("close", "g")))
        self.assertEqual(script_of(without_step(HALL, "b", 0), "b"), (("fail", "w"),))
        self.assertEqual(script_of(without_step(HALL, "b", 1), "b"), (("get", "q", ()),))

    def test_refused(self):
        for number in (3, -1, 99):
            with self.assertRaises(NoStep) as caught:
                without_step(HALL, "a", number)
            self.assertEqual(caught.exception.number, number)
        for number in (0, 2):
            with self.assertRaises(Unfit):
                without_step(HALL, "a", number)
        shield = built({"z": [("in",), ("give",), ("out",)]})
        for number in (0, 2):
            with self.assertRaises(Unfit):
                without_step(shield, "z", number)

    def test_order_of_errors(self):
        with self.assertRaises(NoTask):
            without_step(HALL, "z", 99)
        with self.assertRaises(NoStep):
            without_step(built({"z": []}), "z", 0)

    def test_there_and_back_in_many_houses(self):
        for number in range(120):
            house = made_house(number)
            for task, at in all_marks(house):
                step = step_of(house, task, at)
                try:
                    less = without_step(house, task, at)
                except Unfit:
                    self.assertIn(step[0], ("in", "out", "start", "close", "catch"))
                    continue
                self.assertTrue(is_house(less))
                self.assertEqual(with_step(less, task, at, step), house)
                more = with_step(house, task, at, ("give",))
                self.assertEqual(step_of(more, task, at), ("give",))
                self.assertEqual(step_of(more, task, at + 1), step)
                self.assertEqual(without_step(more, task, at), house)


class WithScript(unittest.TestCase):
    def test_another_script(self):
        told = with_script(HALL, "b", (("give",),))
        self.assertEqual(told, (((HALL[0][0]), ("b", "g", (("give",),))), HALL[1], HALL[2]))
        self.assertEqual(with_script(told, "b", script_of(HALL, "b")), HALL)
        self.assertEqual(with_script(built({"z": [("give",)]}), "z", ()), built({"z": []}))

    def test_refused(self):
        with self.assertRaises(NoTask) as caught:
            with_script(HALL, "z", (("join", "z", ()),))
        self.assertEqual(caught.exception.name, "z")
        for steps in ((), (("close", "g"),), (("start", "b"),), (("join", "c", ()), ("start", "b"), ("close", "g")),
                      (("close", "g"), ("start", "b"))):
            with self.assertRaises(Unfit):
                with_script(HALL, "a", steps)

    def test_lists(self):
        self.assertEqual(with_script(listed(HALL), "b", [["hear", "s", []]]),
                         with_script(HALL, "b", (("hear", "s", ()),)))


class WithTask(unittest.TestCase):
    def test_ascending_and_back(self):
        house = built({"bob": [], "dan": []})
        for name in ("ann", "cy", "eve", "bo", "bobb"):
            told = with_task(house, name, (("give",),))
            self.assertEqual(told, built({"bob": [], "dan": [], name: [("give",)]}))
            self.assertEqual(without_task(told, name), house)
        self.assertEqual(with_task(HALL, "c", ())[0][2], ("c", "", ()))
        self.assertEqual(with_task(HALL, "c", ())[1:], HALL[1:])

    def test_refused(self):
        with self.assertRaises(Known) as caught:
            with_task(HALL, "b", ())
        self.assertEqual(caught.exception.name, "b")
        for steps in ((("start", "b"),), (("close", "g"),), (("join", "c", ()),), (("cancel", "z"),), (("catch", "h"),)):
            with self.assertRaises(Unfit):
                with_task(HALL, "c", steps)

    def test_known_ahead_of_unfit(self):
        with self.assertRaises(Known):
            with_task(HALL, "a", (("join", "z", ()),))

    def test_a_task_that_it_starts(self):
        house = built({"bob": []})
        self.assertEqual(with_task(house, "ann", (("start", "bob"),)), built({"ann": [("start", "bob")], "bob": []}))

    def test_lists(self):
        self.assertEqual(with_task(listed(HALL), "c", [["get", "q", []]]), with_task(HALL, "c", (("get", "q", ()),)))


class WithoutTask(unittest.TestCase):
    def test_refused(self):
        with self.assertRaises(NoTask) as caught:
            without_task(HALL, "c")
        self.assertEqual(caught.exception.name, "c")
        for step in (("start", "b"), ("join", "b", 3), ("cancel", "b")):
            house = built({"a": [step], "b": [("give",)]})
            with self.assertRaises(Unfit):
                without_task(house, "b")
            self.assertEqual(without_task(house, "a"), built({"b": [("give",)]}))

    def test_a_host_and_the_last_one(self):
        with self.assertRaises(Unfit):
            without_task(HALL, "a")
        with self.assertRaises(Unfit):
            without_task(built({"z": []}), "z")
        with self.assertRaises(Unfit):
            without_task(built({"a": [("close", "g")], "b": []}, {"g": "a"}), "a")

    def test_rooms_stay(self):
        house = built({"a": [("put", "q")], "b": []}, rooms={"q": 2})
        self.assertEqual(without_task(house, "a"), built({"b": []}, rooms={"q": 2}))


class WithRoom(unittest.TestCase):
    def test_there_and_back(self):
        for queue in ("a", "q", "z"):
            told = with_room(HALL, queue, 5)
            self.assertEqual(told, (HALL[0], HALL[1], tuple(sorted(HALL[2] + ((queue, 5),)))))
            self.assertEqual(room_of(told, queue), 5)
            self.assertEqual(with_room(told, queue, 0), HALL)

    def test_in_the_place_of_another(self):
        self.assertEqual(with_room(HALL, "p", 1), HALL[:2] + ((("p", 1),),))
        self.assertEqual(with_room(HALL, "p", 0), HALL[:2] + ((),))
        self.assertEqual(with_room(HALL, "p", 3), HALL)
        self.assertEqual(with_room(HALL, "q", 0), HALL)
        self.assertEqual(with_room(HALL, "p", 10 ** 40)[2], (("p", 10 ** 40),))

    def test_lists(self):
        self.assertEqual(with_room(listed(HALL), "q", 2), with_room(HALL, "q", 2))


class Houses(unittest.TestCase):
    def test_all_changes_give_houses_of_tuples(self):
        for number in range(60):
            house = listed(made_house(number))
            name = task_names(house)[0]
            for told in (with_script(house, name, script_of(house, name)), with_task(house, "zed", [["in"], ["out"]]),
                         with_room(house, "q", 7), with_step(house, name, 0, ["give"])):
                self.assertTrue(is_house(told))
