"""What giveways.scripts tells of a HOUSE [5]."""

import unittest

from giveways import scripts
from giveways.errors import NoGroup, NoStep, NoTask
from tests.made import built, listed, made_house

HALL = built({
    "ann": [("start", "cy"), ("put", "q"), ("in",), ("get", "r", 3), ("in",), ("out",), ("out",), ("close", "g")],
    "bob": [("hear", "t", ()), ("set", "s"), ("start", "dan"), ("start", "eve"), ("hear", "t", 0), ("put", "q"),
            ("catch", "h")],
    "cy in g": [("start", "fay"), ("catch", "i")],
    "dan in h": [], "eve": [("give",)], "fay in i": [("until", 3)],
}, {"g": "ann", "h": "bob", "i": "cy"}, {"a": 4, "q": 2})
LONE = built({"z": []})


class Sets(unittest.TestCase):
    def test_task_names(self):
        self.assertEqual(scripts.task_names(HALL), ("ann", "bob", "cy", "dan", "eve", "fay"))
        self.assertEqual(scripts.task_names(LONE), ("z",))

    def test_queue_names(self):
        self.assertEqual(scripts.queue_names(HALL), ("a", "q", "r"))
        self.assertEqual(scripts.queue_names(LONE), ())
        self.assertEqual(scripts.queue_names(built({"z": [("get", "b", ()), ("put", "a"), ("set", "c")]})), ("a", "b"))
        self.assertEqual(scripts.queue_names(built({"z": []}, rooms={"b": 1, "a": 1})), ("a", "b"))

    def test_signal_names(self):
        self.assertEqual(scripts.signal_names(HALL), ("s", "t"))
        self.assertEqual(scripts.signal_names(LONE), ())
        self.assertEqual(scripts.signal_names(built({"z": [("put", "q"), ("fail", "w"), ("hear", "x", 1)]})), ("x",))

    def test_many_names_ascend(self):
        names = ("h", "c", "aa", "z", "f", "b", "a", "y", "m")
        for word, told in (("put", scripts.queue_names), ("set", scripts.signal_names)):
            house = built({"z": [(word, name) for name in names + names]})
            self.assertEqual(told(house), ("a", "aa", "b", "c", "f", "h", "m", "y", "z"))
        self.assertEqual(scripts.queue_names(built({"z": []}, rooms={name: 1 for name in names})), tuple(sorted(names)))

    def test_first_tasks(self):
        self.assertEqual(scripts.first_tasks(HALL), ("ann", "bob"))
        self.assertEqual(scripts.first_tasks(LONE), ("z",))
        self.assertEqual(scripts.first_tasks(built({"a": [("join", "b", ()), ("cancel", "b")], "b": []})), ("a", "b"))

    def test_all_marks(self):
        house = built({"b": [("give",), ("give",)], "a": [("give",)], "c": []})
        self.assertEqual(scripts.all_marks(house), (("a", 0), ("b", 0), ("b", 1)))
        self.assertEqual(scripts.all_marks(LONE), ())
        self.assertEqual(len(scripts.all_marks(HALL)), 19)

    def test_tasks_in(self):
        house = built({"a": [("start", "d"), ("start", "b"), ("start", "c"), ("close", "g"), ("close", "h")],
                       "b in g": [], "c": [], "d in g": []}, {"g": "a", "h": "a"})
        self.assertEqual(scripts.tasks_in(house, "g"), ("b", "d"))
        self.assertEqual(scripts.tasks_in(house, "h"), ())

    def test_all_ascend_in_many_houses(self):
        for number in range(200):
            house = made_house(number)
            for told in (scripts.task_names, scripts.queue_names, scripts.signal_names, scripts.first_tasks,
                         scripts.all_marks):
                self.assertEqual(told(house), tuple(sorted(set(told(house)))))
            for group, host in house[1]:
                self.assertEqual(scripts.tasks_in(house, group), tuple(sorted(set(scripts.tasks_in(house, group)))))


class Parts(unittest.TestCase):
    def test_script_and_group(self):
        for task, group, steps in HALL[0]:
            self.assertEqual(scripts.script_of(HALL, task), steps)
            self.assertEqual(scripts.group_of(HALL, task), group)
            self.assertEqual([scripts.step_of(HALL, task, at) for at in range(len(steps))], list(steps))
        self.assertEqual(scripts.script_of(listed(HALL), "cy"), (("start", "fay"), ("catch", "i")))

    def test_step_of_refuses_numbers(self):
        for task, number in (("ann", 8), ("ann", -1), ("ann", 10 ** 30), ("dan", 0), ("eve", 1), ("eve", -1)):
            with self.assertRaises(NoStep) as caught:
                scripts.step_of(HALL, task, number)
            self.assertEqual(caught.exception.number, number)

    def test_shields_at(self):
        self.assertEqual([scripts.shields_at(HALL, "ann", at) for at in range(9)], [0, 0, 0, 1, 1, 2, 1, 0, 0])
        self.assertEqual(scripts.shields_at(HALL, "dan", 0), 0)
        house = built({"a": [("in",), ("out",), ("in",), ("in",), ("out",), ("give",), ("out",)]})
        self.assertEqual([scripts.shields_at(house, "a", at) for at in range(8)], [0, 1, 0, 1, 2, 1, 1, 0])

    def test_shields_at_names_that_are_words(self):
        house = built({"a": [("in",), ("put", "in"), ("fail", "out"), ("set", "out"), ("out",), ("put", "in")]})
        self.assertEqual([scripts.shields_at(house, "a", at) for at in range(7)], [0, 1, 1, 1, 1, 0, 0])

    def test_shields_at_refuses_numbers(self):
        for task, number in (("ann", 9), ("ann", -1), ("dan", 1), ("dan", -1), ("ann", -9)):
            with self.assertRaises(NoStep) as caught:
                scripts.shields_at(HALL, task, number)
            self.assertEqual(caught.exception.number, number)

    def test_starter_of(self):
        told = {task: scripts.starter_of(HALL, task) for task in scripts.task_names(HALL)}
        self.assertEqual(told, {"ann": (), "bob": (), "cy": ("ann", 0), "dan": ("bob", 2), "eve": ("bob", 3),
                                "fay": ("cy", 0)})
        self.assertEqual(scripts.starter_of(built({"a": [("join", "b", ()), ("cancel", "b")], "b": []}), "b"), ())

    def test_host_and_closer(self):
        self.assertEqual([scripts.host_of(HALL, group) for group in "ghi"], ["ann", "bob", "cy"])
        self.assertEqual([scripts.closer_of(HALL, group) for group in "ghi"], [("ann", 7), ("bob", 6), ("cy", 1)])

    def test_hosts_above(self):
        told = [scripts.hosts_above(HALL, task) for task in scripts.task_names(HALL)]
        self.assertEqual(told, [(), (), ("ann",), ("bob",), (), ("cy", "ann")])

    def test_room_of(self):
        self.assertEqual([scripts.room_of(HALL, queue) for queue in ("a", "q", "r", "zz", "", "A B")],
                         [4, 2, 0, 0, 0, 0])

    def test_groups_that_there_are_not(self):
        for told in (scripts.host_of, scripts.tasks_in, scripts.closer_of):
            for group in ("j", "", "ann", "G", "gg"):
                with self.assertRaises(NoGroup) as caught:
                    told(HALL, group)
                self.assertEqual(caught.exception.name, group)

    def test_tasks_that_there_are_not(self):
        for name in ("zed", "", "g", "ANN", "an"):
            calls = (
                lambda: scripts.script_of(HALL, name), lambda: scripts.group_of(HALL, name),
                lambda: scripts.step_of(HALL, name, 0), lambda: scripts.step_of(HALL, name, 99),
                lambda: scripts.shields_at(HALL, name, 0), lambda: scripts.shields_at(HALL, name, -1),
                lambda: scripts.starter_of(HALL, name), lambda: scripts.hosts_above(HALL, name),
            )
            for call in calls:
                with self.assertRaises(NoTask) as caught:
                    call()
                self.assertEqual(caught.exception.name, name)

    def test_kinds_of_what_lists_tell(self):
        house = listed(HALL)
        self.assertEqual(scripts.closer_of(house, "g"), ("ann", 7))
        self.assertEqual(scripts.starter_of(house, "cy"), ("ann", 0))
        self.assertEqual(scripts.step_of(house, "ann", 3), ("get", "r", 3))
        self.assertEqual(scripts.hosts_above(house, "fay"), ("cy", "ann"))
        self.assertEqual(scripts.all_marks(house), scripts.all_marks(HALL))
