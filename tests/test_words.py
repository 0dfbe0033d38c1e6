"""Each of the fourteen words of STEPS by its own turns [4]: ready and not ready, and what its turn does."""

import unittest

from giveways.houses import after, begin, is_done, next_step, ready, turn
from giveways.errors import NotReady
from tests.made import built, stands


class Turns(unittest.TestCase):
    def shows(self, house, choices, task, status, number, diary, **parts):
        row = stands(after(house, choices))[task]
        expected = {"status": status, "number": number, "diary": tuple(diary), "by": (), "held": (), "words": ()}
        expected.update(parts, task=task)
        self.assertEqual(row, expected)

    def is_ready_at(self, house, choices, *tasks):
        self.assertEqual(ready(house, after(house, choices)), tasks)

    def refused(self, house, choices, task):
        with self.assertRaises(NotReady) as caught:
            turn(house, after(house, choices), task)
        self.assertEqual(caught.exception.name, task)


class Give(Turns):
    def test_nothing_but_the_number(self):
        house = built({"a": [("give",), ("give",)]})
        self.assertEqual(begin(house), (0, (("a", "going", 0, (), (), (), ()),), (), ()))
        self.assertEqual(after(house, ("a",)), (0, (("a", "going", 1, (), (), (), ()),), (), ()))
        self.assertEqual(after(house, ("a", "a")), (0, (("a", "ended", 2, (), (), (), ()),), (), ()))
        self.refused(house, ("a", "a"), "a")


class Put(Turns):
    def test_without_a_room_there_is_no_end(self):
        house = built({"a": [("put", "q")] * 6})
        self.shows(house, ("a",) * 6, "a", "ended", 6, [("put", at) for at in range(6)])
        self.assertEqual(after(house, ("a",) * 6)[2], (("q", tuple(("a", at) for at in range(6)), 6),))

    def test_with_room_till_it_is_full(self):
        house = built({"a": [("put", "q")] * 3, "b": [("get", "q", ())]}, rooms={"q": 2})
        self.is_ready_at(house, ("a",), "a", "b")
        self.is_ready_at(house, ("a", "a"), "b")
        self.refused(house, ("a", "a"), "a")
        self.is_ready_at(house, ("a", "a", "b"), "a")
        self.assertEqual(after(house, ("a", "a", "b", "a"))[2], (("q", (("a", 1), ("a", 2)), 3),))
        self.shows(house, ("a", "a", "b", "a"), "a", "ended", 3, [("put", 0), ("put", 1), ("put", 2)])

    def test_a_full_queue_and_the_clock(self):
        house = built({"a": [("put", "q"), ("put", "q")], "b": [("until", 9), ("get", "q", ())]}, rooms={"q": 1})
        self.assertEqual(after(house, ("a",))[0], 9)
        self.is_ready_at(house, ("a",), "b")
        self.is_ready_at(house, ("a", "b"), "b")
        self.is_ready_at(house, ("a", "b", "b"), "a")

    def test_puts_of_several_are_counted_together(self):
        house = built({"a": [("put", "q"), ("put", "r")], "b": [("put", "q")], "c": [("get", "q", ())]})
        choices = ("b", "c", "a", "a")
        self.shows(house, choices, "a", "ended", 2, [("put", 1), ("put", 0)])
        self.assertEqual(after(house, choices)[2], (("q", (("a", 0),), 2), ("r", (("a", 1),), 1)))

    def test_a_room_that_no_step_names(self):
        self.assertEqual(begin(built({"a": [("put", "q")]}, rooms={"z": 1}))[2], (("q", (), 0), ("z", (), 0)))


class Get(Turns):
    def test_not_ready_till_something_lies_there(self):
        house = built({"a": [("get", "q", ())], "b": [("put", "q")]})
        self.is_ready_at(house, (), "b")
        self.refused(house, (), "a")
        self.is_ready_at(house, ("b",), "a")
        self.shows(house, ("b", "a"), "a", "ended", 1, [("got", ("b", 0))])
        self.assertEqual(after(house, ("b", "a"))[2], (("q", (), 1),))

    def test_the_first_one_goes(self):
        house = built({"a": [("put", "q")] * 2, "b": [("put", "q")], "c": [("get", "q", ())] * 2})
        self.shows(house, ("a", "b", "a", "c", "c"), "c", "ended", 2, [("got", ("a", 0)), ("got", ("b", 0))])
        self.assertEqual(after(house, ("a", "b", "a", "c"))[2], (("q", (("b", 0), ("a", 1)), 3),))

    def test_another_queue_does_not_count(self):
        house = built({"a": [("put", "r"), ("put", "q")], "b": [("get", "q", ())]})
        self.is_ready_at(house, ("a",), "a")
        self.is_ready_at(house, ("a", "a"), "b")

    def test_late_at_an_end(self):
        house = built({"a": [("get", "q", 4)], "b": [("give",)]})
        self.is_ready_at(house, (), "b")
        self.assertEqual((begin(house)[0], after(house, ("b",))[0]), (0, 4))
        self.shows(house, ("b", "a"), "a", "ended", 1, [("late", 0)])
        self.assertEqual(after(house, ("b", "a"))[2], (("q", (), 0),))

    def test_an_end_behind_the_clock(self):
        house = built({"a": [("until", 5), ("get", "q", 3), ("get", "q", 5), ("get", "q", 6)]})
        self.is_ready_at(house, ("a",), "a")
        self.shows(house, ("a",) * 3, "a", "going", 3, [("late", 1), ("late", 2)])
        self.assertEqual(after(house, ("a", "a"))[0], 5)
        self.assertEqual(after(house, ("a", "a", "a"))[0], 6)

    def test_an_end_of_0_is_ready_at_once(self):
        house = built({"a": [("get", "q", 0)], "b": [("put", "q")]})
        self.is_ready_at(house, (), "a", "b")
        self.shows(house, ("a",), "a", "ended", 1, [("late", 0)])
        self.shows(house, ("b", "a"), "a", "ended", 1, [("got", ("b", 0))])

    def test_not_late_if_something_lies_there(self):
        house = built({"a": [("get", "q", 3)], "b": [("until", 3), ("put", "q")]})
        self.is_ready_at(house, (), "a", "b")
        self.shows(house, ("b", "b", "a"), "a", "ended", 1, [("got", ("b", 1))])
        self.shows(house, ("b", "a"), "a", "ended", 1, [("late", 0)])


class Set(Turns):
    def test_the_first_one_counts(self):
        house = built({"a": [("set", "s"), ("set", "s")], "b": [("set", "s")], "c": [("hear", "t", 0)]})
        self.assertEqual(begin(house)[3], (("s", ()), ("t", ())))
        self.assertEqual(after(house, ("b",))[3], (("s", ("b", 0)), ("t", ())))
        self.assertEqual(after(house, ("b", "a", "a"))[3], (("s", ("b", 0)), ("t", ())))
        self.assertEqual(after(house, ("a", "a", "b"))[3], (("s", ("a", 0)), ("t", ())))
        self.shows(house, ("a", "a"), "a", "ended", 2, [])


class Hear(Turns):
    def test_not_ready_till_it_is_set(self):
        house = built({"a": [("hear", "s", ()), ("hear", "s", 0)], "b": [("set", "t"), ("set", "s")], "c": [("set", "s")]})
        self.is_ready_at(house, ("b",), "b", "c")
        self.refused(house, ("b",), "a")
        self.is_ready_at(house, ("b", "c"), "a", "b")
        self.shows(house, ("b", "c", "b", "a", "a"), "a", "ended", 2, [("heard", ("c", 0))] * 2)
        self.shows(house, ("b", "b", "c", "a"), "a", "going", 1, [("heard", ("b", 1))])

    def test_late(self):
        house = built({"a": [("hear", "s", 7), ("hear", "s", ()), ("give",)], "b": [("until", 8), ("set", "s")]})
        self.assertEqual(begin(house)[0], 7)
        self.is_ready_at(house, (), "a")
        self.is_ready_at(house, ("a",), "b")
        self.assertEqual(after(house, ("a",))[0], 8)
        self.shows(house, ("a", "b", "b", "a"), "a", "going", 2, [("late", 0), ("heard", ("b", 1))])

    def test_not_late_if_it_is_set(self):
        house = built({"a": [("hear", "s", 0)], "b": [("set", "s")]})
        self.is_ready_at(house, (), "a", "b")
        self.shows(house, ("b", "a"), "a", "ended", 1, [("heard", ("b", 0))])
        self.shows(house, ("a", "b"), "a", "ended", 1, [("late", 0)])


class Start(Turns):
    def test_the_task_begins_by_this_mark(self):
        house = built({"a": [("give",), ("start", "b")], "b": [("give",)]})
        self.is_ready_at(house, (), "a")
        self.shows(house, ("a",), "b", "idle", 0, [])
        self.shows(house, ("a", "a"), "b", "going", 0, [], by=("a", 1))
        self.shows(house, ("a", "a"), "a", "ended", 2, [])
        self.shows(house, ("a", "a", "b"), "b", "ended", 1, [], by=("a", 1))
        self.refused(house, ("a",), "b")

    def test_without_steps_it_is_ended_at_once(self):
        house = built({"a": [("start", "b"), ("join", "b", ())], "b": []})
        self.shows(house, (), "b", "idle", 0, [])
        self.shows(house, ("a",), "b", "ended", 0, [], by=("a", 0))
        self.shows(house, ("a", "a"), "a", "ended", 2, [("joined", "ended", ())])

    def test_first_tasks_without_steps(self):
        house = built({"a": [], "b": []})
        self.assertEqual(begin(house), (0, (("a", "ended", 0, (), (), (), ()), ("b", "ended", 0, (), (), (), ())), (), ()))
        self.assertTrue(is_done(house, begin(house)))

    def test_the_last_step_starts(self):
        house = built({"a": [("start", "b")], "b": [("start", "c")], "c": [("give",)]})
        self.is_ready_at(house, ("a",), "b")
        self.is_ready_at(house, ("a", "b"), "c")


class Join(Turns):
    def test_waits_till_it_is_over(self):
        house = built({"a": [("join", "b", ())], "b": [("give",), ("give",)]})
        self.is_ready_at(house, ("b",), "b")
        self.is_ready_at(house, ("b", "b"), "a")
        self.shows(house, ("b", "b", "a"), "a", "ended", 1, [("joined", "ended", ())])

    def test_an_idle_task_is_not_over(self):
        house = built({"a": [("join", "b", ()), ("start", "b")], "b": []})
        self.assertTrue(is_done(house, begin(house)))
        self.assertEqual(next_step(house, begin(house), "a"), ("join", "b", ()))

    def test_failed_and_stopped(self):
        house = built({"a": [("join", "b", ()), ("join", "c", ())], "b": [("fail", "w")], "c": [("give",)],
                       "d": [("cancel", "c")]})
        self.shows(house, ("b", "d", "a", "a"), "a", "ended", 2, [("joined", "failed", ("w",)), ("joined", "stopped", ())])

    def test_late(self):
        house = built({"a": [("join", "b", 2)], "b": [("until", 5)], "c": [("join", "b", 0), ("join", "b", 5)]})
        self.is_ready_at(house, (), "c")
        self.shows(house, ("c",), "c", "going", 1, [("late", 0)])
        self.assertEqual(after(house, ("c",))[0], 2)
        self.shows(house, ("c", "a"), "a", "ended", 1, [("late", 0)])
        self.assertEqual(after(house, ("c", "a"))[0], 5)
        self.is_ready_at(house, ("c", "a"), "b", "c")
        self.shows(house, ("c", "a", "c", "b"), "c", "ended", 2, [("late", 0), ("late", 1)])
        self.shows(house, ("c", "a", "b", "c"), "c", "ended", 2, [("late", 0), ("joined", "ended", ())])


class Until(Turns):
    def test_at_ahead_of_and_behind_the_clock(self):
        house = built({"a": [("until", 0), ("until", 3), ("until", 2), ("until", 3), ("until", 4)], "b": [("give",)]})
        self.is_ready_at(house, (), "a", "b")
        self.is_ready_at(house, ("a",), "b")
        self.is_ready_at(house, ("a", "b"), "a")
        self.assertEqual([after(house, ("a", "b") + ("a",) * many)[0] for many in range(5)], [3, 3, 3, 4, 4])
        self.shows(house, ("a", "b") + ("a",) * 4, "a", "ended", 5, [])


class CloseAndCatch(Turns):
    def test_wait_till_none_of_the_group_is_going(self):
        for word in ("close", "catch"):
            house = built({"a": [("start", "b"), ("start", "c"), (word, "g"), ("give",)], "b in g": [("give",)],
                           "c in g": [("give",)], "d": [("until", 1)]}, {"g": "a"})
            self.is_ready_at(house, ("a",), "a", "b")
            self.is_ready_at(house, ("a", "a"), "b", "c")
            self.is_ready_at(house, ("a", "a", "b"), "c")
            self.refused(house, ("a", "a", "b"), "a")
            self.is_ready_at(house, ("a", "a", "b", "c"), "a")
            self.shows(house, ("a", "a", "b", "c", "a"), "a", "going", 3, [("closed", ())])

    def test_a_group_without_tasks(self):
        for word in ("close", "catch"):
            house = built({"a": [(word, "g")]}, {"g": "a"})
            self.shows(house, ("a",), "a", "ended", 1, [("closed", ())])

    def test_other_groups_do_not_count(self):
        house = built({"a": [("start", "b"), ("start", "c"), ("catch", "h"), ("catch", "g")], "b in g": [("until", 3)],
                       "c in h": []}, {"g": "a", "h": "a"})
        self.is_ready_at(house, ("a", "a"), "a")
        self.is_ready_at(house, ("a", "a", "a"), "b")

    def test_words_of_several_tasks(self):
        for word in ("close", "catch"):
            house = built({
                "a": [("start", "b"), ("start", "c"), ("start", "d"), ("start", "e"), (word, "g"), ("give",)],
                "b in g": [("in",), ("fail", "z"), ("out",)], "c in g": [("in",), ("fail", "x"), ("out",)],
                "d in g": [("in",), ("fail", "z"), ("out",)], "e in g": [],
            }, {"g": "a"})
            choices = ("a",) * 4 + ("b", "c", "d") * 2 + ("a",)
            if word == "catch":
                self.shows(house, choices, "a", "going", 5, [("closed", ("x", "z"))])
                self.is_ready_at(house, choices, "a")
            else:
                self.shows(house, choices, "a", "failed", 5, [("closed", ("x", "z"))], words=("x", "z"))
                self.is_ready_at(house, choices)

    def test_many_words_ascend(self):
        words = ("h", "c", "aa", "z", "f", "b", "a", "y", "m")
        shielded = {f"t{word} in g": [("in",), ("fail", word), ("out",)] for word in words}
        names = ["t" + word for word in words]
        house = built({"a": [("start", name) for name in names] + [("catch", "g")], **shielded}, {"g": "a"})
        choices = ("a",) * len(names) + tuple(names) * 2 + ("a",)
        self.shows(house, choices, "a", "ended", 10, [("closed", ("a", "aa", "b", "c", "f", "h", "m", "y", "z"))])

    def test_a_close_that_fails_hands_its_words_on(self):
        house = built({
            "a": [("start", "b"), ("catch", "g")], "b in g": [("start", "c"), ("start", "d"), ("close", "h")],
            "c in h": [("in",), ("fail", "y"), ("out",)], "d in h": [("in",), ("fail", "x"), ("out",)],
        }, {"g": "a", "h": "b"})
        choices = ("a", "b", "b", "c", "d", "c", "d", "b", "a")
        self.shows(house, choices, "b", "failed", 3, [("closed", ("x", "y"))], by=("a", 0), words=("x", "y"))
        self.shows(house, choices, "a", "ended", 2, [("closed", ("x", "y"))])


class Fail(Turns):
    def test_one_word(self):
        house = built({"a": [("give",), ("fail", "w"), ("give",)]})
        self.shows(house, ("a", "a"), "a", "failed", 2, [], words=("w",))
        self.is_ready_at(house, ("a", "a"))

    def test_as_the_last_step(self):
        self.shows(built({"a": [("fail", "w")]}), ("a",), "a", "failed", 1, [], words=("w",))


class Cancel(Turns):
    def test_stops_who_is_going(self):
        house = built({"a": [("give",), ("cancel", "b")], "b": [("give",), ("give",), ("give",)]})
        self.shows(house, ("b", "a", "b", "a"), "b", "stopped", 2, [("stopped", ("a", 1))])
        self.shows(house, ("b", "a", "b", "a"), "a", "ended", 2, [])
        self.refused(house, ("b", "a", "b", "a"), "b")


class InAndOut(Turns):
    def test_alone_they_do_nothing(self):
        house = built({"a": [("in",), ("give",), ("in",), ("out",), ("out",)]})
        for many in range(5):
            self.shows(house, ("a",) * many, "a", "going", many, [])
        self.shows(house, ("a",) * 5, "a", "ended", 5, [])
