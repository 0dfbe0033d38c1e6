"""[6] Lanes and the clock: along runs, by the test's own turns; moments; errors."""

import unittest

from giveways.errors import NoQueue, NoSignal, NoStep, NotReady, NoTask, Unfit
from giveways.houses import after, is_run, left_over, ready
from giveways.lanes import (
    at_ranks, can_be_late, can_get, can_miss, can_set, end_of, fullest, got_by, gets_of, heard_by, is_fullest, is_miss,
    is_unset_run, lates, latest_over, least_room, lying, moments_of, most_lying, over_at, puts_of, set_by, soonest_over,
    surely_late, taken_by, unset_run, wait_of, waits, with_end, with_moments,
)
from giveways.scripts import all_marks, is_house, queue_names, signal_names, task_names, with_room
from tests.made import Refusing, built, listed, made_house, made_run
from tests.plain import group_tasks, played, script

WAITS = {"put": "room", "get": "item", "hear": "signal", "join": "over", "until": "clock"}
HOUSES = 140


def runs():
    """Many houses, each with a whole run and with the runs that begin it."""
    for number in range(HOUSES):
        house = made_house(number)
        run = made_run(house, number)
        for many in {0, len(run) // 3, 2 * len(run) // 3, len(run)}:
            yield house, run[:many], played(house, run[:many])


def wait(play, name):
    if play.status[name] != "going" or play.is_ready(name):
        return ()
    word, what = play.next(name)[:2]
    if word in ("close", "catch"):
        return ("group", tuple(other for other in sorted(group_tasks(play.house, what)) if play.status[other] == "going"))
    return (WAITS[word], what)


def step(house, mark):
    return script(house, mark[0])[mark[1]]


class AlongRuns(unittest.TestCase):
    def test_waits(self):
        seen = set()
        for house, run, play in runs():
            expected = tuple((name, wait(play, name)) for name in task_names(house) if wait(play, name))
            self.assertEqual(waits(house, run), expected)
            self.assertEqual([pair[0] for pair in expected],
                             [name for name in left_over(after(house, run)) if name not in ready(house, after(house, run))])
            for name in task_names(house):
                self.assertEqual(wait_of(house, run, name), wait(play, name))
                seen.add(wait(play, name)[:1])
        self.assertEqual(seen, {(), ("room",), ("item",), ("signal",), ("over",), ("clock",), ("group",)})

    def test_end_of(self):
        seen = set()
        for house, run, play in runs():
            for name in task_names(house):
                expected = None
                if wait(play, name) and play.next(name)[0] in ("get", "hear", "join") and play.next(name)[2] != ():
                    expected = play.next(name)[2]
                self.assertEqual(end_of(house, run, name), expected)
                seen.add(expected)
        self.assertTrue({None, 1, 2, 3} <= seen)

    def test_puts_and_gets(self):
        for house, run, play in runs():
            for queue in queue_names(house):
                puts = tuple(mark for name, mark in play.events("put") if name == queue)
                gets = tuple(mark for name, mark, _ in play.events("got") if name == queue)
                self.assertEqual(puts_of(house, run, queue), puts)
                self.assertEqual(gets_of(house, run, queue), gets)
                self.assertEqual(lying(house, run, queue), tuple(play.lying[queue]))
                self.assertEqual([got_by(house, run, mark) for mark in gets], list(puts[:len(gets)]))

    def test_got_by_and_taken_by(self):
        for house, run, play in runs():
            got = {mark: put for _, mark, put in play.events("got")}
            taken = {put: mark for mark, put in got.items()}
            for mark in all_marks(house):
                if step(house, mark)[0] == "get":
                    self.assertEqual(got_by(house, run, mark), got.get(mark))
                elif step(house, mark)[0] == "put":
                    self.assertEqual(taken_by(house, run, mark), taken.get(mark))

    def test_signals(self):
        for house, run, play in runs():
            for signal in signal_names(house):
                self.assertEqual(set_by(house, run, signal), play.setter[signal] or None)
                heard = tuple(sorted(mark for name, mark in play.events("heard") if name == signal))
                self.assertEqual(heard_by(house, run, signal), heard)

    def test_lates(self):
        seen = set()
        for house, run, play in runs():
            expected = tuple(sorted(mark for mark, in play.events("late")))
            self.assertEqual(lates(house, run), expected)
            seen.update(step(house, mark)[0] for mark in expected)
        self.assertEqual(seen, {"get", "hear", "join"})

    def test_over_at(self):
        seen = set()
        for house, run, play in runs():
            for name in task_names(house):
                self.assertEqual(over_at(house, run, name), play.over_at.get(name))
                seen.add(play.over_at.get(name))
        self.assertTrue({None, 0, 1, 2, 3} <= seen)

    def test_over_by_the_turn_of_another_one(self):
        house = built({"a": [("until", 5), ("cancel", "b")], "b": [("hear", "s", ())], "c": [], "d": [("until", 9)]})
        self.assertEqual([over_at(house, ("a", "a"), name) for name in "abcd"], [5, 5, 0, None])
        self.assertEqual([over_at(house, ("a", "a", "d"), name) for name in "abcd"], [5, 5, 0, 9])
        self.assertEqual([over_at(house, (), name) for name in "abcd"], [None, None, 0, None])
        self.assertEqual(over_at(built({"a": [("hear", "s", 4)], "b": []}), (), "b"), 0)

    def test_late_and_in_time(self):
        house = built({"a": [("get", "q", 3), ("hear", "s", 0), ("join", "b", 3)], "b": [("until", 4), ("put", "q")]})
        run = ("a", "a", "a", "b", "b")
        self.assertEqual(lates(house, run), (("a", 0), ("a", 1), ("a", 2)))
        self.assertEqual((got_by(house, run, ("a", 0)), lying(house, run, "q"), gets_of(house, run, "q")),
                         (None, (("b", 1),), ()))
        self.assertEqual((set_by(house, run, "s"), heard_by(house, run, "s"), end_of(house, (), "a")), (None, (), None))
        self.assertEqual((wait_of(house, (), "b"), end_of(house, (), "b")), (("clock", 4), None))


class Guarantees(unittest.TestCase):
    def test_puts_and_gets_by_numbers(self):
        for house, run, play in runs():
            for queue in queue_names(house):
                puts, gets = puts_of(house, run, queue), gets_of(house, run, queue)
                self.assertEqual([got_by(house, run, mark) for mark in gets], list(puts[:len(gets)]))
                self.assertEqual(lying(house, run, queue), puts[len(gets):])
                self.assertEqual([taken_by(house, run, mark) for mark in puts],
                                 list(gets) + [None] * (len(puts) - len(gets)))

    def test_more_room(self):
        for number in range(HOUSES):
            house = made_house(number)
            if times(house):
                continue
            run = made_run(house, number)
            for queue, room in house[2]:
                for more in (room + 1, room + 5, 0):
                    self.assertTrue(is_run(with_room(house, queue, more), run))

    def test_ranks(self):
        for number in range(HOUSES):
            house = stretched(made_house(number))
            run = made_run(house, number)
            ranks = at_ranks(house)
            for many in range(len(run) + 1):
                self.assertEqual(after(ranks, run[:many])[1:], after(house, run[:many])[1:])
                self.assertEqual(ready(ranks, after(ranks, run[:many])), ready(house, after(house, run[:many])))


def times(house):
    return [part[-1] for row in house[0] for part in row[2]
            if part[0] == "until" or part[0] in ("get", "hear", "join") and part[-1] != ()]


def stretched(house):
    """The house with far apart moments in the place of 1, 2 and 3."""
    return with_moments(house, tuple((7, 500, 10 ** 6)[:len(moments_of(house))]))


class Moments(unittest.TestCase):
    house = built({"a": [("until", 9), ("get", "q", 0), ("until", 0), ("join", "b", 4)],
                   "b": [("hear", "s", 9), ("get", "q", ()), ("hear", "s", ()), ("until", 30)]}, {}, {"q": 9})

    def test_moments_of(self):
        self.assertEqual(moments_of(self.house), (4, 9, 30))
        self.assertEqual(moments_of(built({"a": [("until", 0), ("get", "q", ())]})), ())
        for number in range(HOUSES):
            house = made_house(number)
            self.assertEqual(moments_of(house), tuple(sorted(set(times(house)) - {0})))

    def test_at_ranks(self):
        expected = built({"a": [("until", 2), ("get", "q", 0), ("until", 0), ("join", "b", 1)],
                          "b": [("hear", "s", 2), ("get", "q", ()), ("hear", "s", ()), ("until", 3)]}, {}, {"q": 9})
        self.assertEqual(at_ranks(self.house), expected)
        self.assertEqual(at_ranks(expected), expected)

    def test_with_moments(self):
        self.assertEqual(with_moments(self.house, (1, 2, 3)), at_ranks(self.house))
        self.assertEqual(with_moments(self.house, [4, 9, 30]), self.house)
        self.assertEqual(with_moments(with_moments(self.house, (5, 6, 10 ** 6)), (4, 9, 30)), self.house)
        self.assertEqual(with_moments(self.house, (9, 30, 31))[0][0][2],
                         (("until", 30), ("get", "q", 0), ("until", 0), ("join", "b", 9)))
        for moments in ((), (1,), (1, 2), (1, 2, 3, 4)):
            with self.assertRaises(Unfit):
                with_moments(self.house, moments)
        still = built({"a": [("until", 0)]})
        self.assertEqual(with_moments(still, ()), still)
        with self.assertRaises(Unfit):
            with_moments(still, (1,))

    def test_with_end(self):
        for mark, end in ((("a", 1), 7), (("a", 3), ()), (("b", 0), 0), (("b", 1), 10 ** 6), (("b", 2), ())):
            changed = with_end(self.house, mark, end)
            self.assertTrue(is_house(changed))
            for other in all_marks(self.house):
                old = step(self.house, other)
                self.assertEqual(step(changed, other), old if other != mark else old[:2] + (end,))
            self.assertEqual(changed[1:], self.house[1:])
            self.assertEqual(with_end(changed, mark, step(self.house, mark)[2]), self.house)
        self.assertEqual(with_end(self.house, ["a", 1], []), with_end(self.house, ("a", 1), ()))


class Errors(Refusing, unittest.TestCase):
    house = built({"a": [("put", "q"), ("get", "q", 5)], "b": [("hear", "s", ()), ("give",)], "c": [("set", "s")]},
                  {}, {"r": 1})

    def test_choices(self):
        rows = ((wait_of, "a"), (waits,), (end_of, "a"), (puts_of, "q"), (gets_of, "q"), (lying, "q"), (got_by, ("a", 1)),
                (taken_by, ("a", 0)), (set_by, "s"), (heard_by, "s"), (lates,), (over_at, "a"))
        for function, *rest in rows:
            self.refused(NoTask, "z", function, self.house, ("a", "b", "z", "y"), *rest)
            self.refused(NotReady, "b", function, self.house, ("a", "b", "a", "a"), *rest)
            self.refused(NotReady, "a", function, self.house, ["a", "a", "a"], *rest)

    def test_task_ahead_of_choices(self):
        for function in (wait_of, end_of, over_at):
            self.refused(NoTask, "x", function, self.house, ("z", "b"), "x")
            self.refused(NoTask, "", function, self.house, ("b",), "")
        for function in (got_by, taken_by):
            self.refused(NoTask, "x", function, self.house, ("z",), ("x", 99))
            self.refused(NoTask, "x", function, self.house, ("b",), ("x", 0))

    def test_numbers_and_names_behind_choices(self):
        for function, word in ((got_by, 1), (taken_by, 0)):
            self.refused(NoTask, "z", function, self.house, ("z",), ("a", 7))
            self.refused(NotReady, "b", function, self.house, ("b",), ("a", 7))
            for number in (2, -1, 10 ** 40):
                self.refused(NoStep, number, function, self.house, (), ("a", number))
            self.refused(Unfit, None, function, self.house, ("a",), ("a", 1 - word))
            self.refused(Unfit, None, function, self.house, (), ["c", 0])
        for function in (puts_of, gets_of, lying):
            self.refused(NotReady, "b", function, self.house, ("b",), "no")
            self.refused(NoQueue, "s", function, self.house, (), "s")
            self.assertEqual(function(self.house, ("a",), "r"), ())
        for function in (set_by, heard_by):
            self.refused(NotReady, "b", function, self.house, ("b",), "no")
            self.refused(NoSignal, "q", function, self.house, (), "q")

    def test_without_choices(self):
        run = ("a",)
        for function, rest in ((can_get, ()), (can_miss, ()), (is_miss, (run,)), (can_be_late, ()), (surely_late, ())):
            self.refused(NoTask, "x", function, self.house, ("x", 9), *rest)
            self.refused(NoStep, 2, function, self.house, ("a", 2), *rest)
            self.refused(NoStep, -1, function, self.house, ("a", -1), *rest)
            self.refused(Unfit, None, function, self.house, ("a", 0), *rest)
        for function in (can_get, can_miss):
            self.refused(Unfit, None, function, self.house, ("b", 0))
        for function, rest in ((can_set, ()), (unset_run, ()), (is_unset_run, (None,))):
            self.refused(NoSignal, "r", function, self.house, "r", *rest)
        for function in (soonest_over, latest_over):
            self.refused(NoTask, "q", function, self.house, "q")
        for function, rest in ((most_lying, ()), (fullest, ()), (is_fullest, (3,)), (least_room, ())):
            self.refused(NoQueue, "s", function, self.house, "s", *rest)
        self.refused(NoTask, "x", with_end, self.house, ("x", 9), 1)
        self.refused(NoStep, 2, with_end, self.house, ("a", 2), 1)
        for mark in (("a", 0), ("b", 1), ("c", 0)):
            self.refused(Unfit, None, with_end, self.house, mark, 1)

    def test_lists(self):
        run, house = ["a", "c", "b"], listed(self.house)
        self.assertEqual(waits(house, run), ())
        self.assertEqual(taken_by(house, run + ["a"], ["a", 0]), ("a", 1))
        self.assertEqual(can_get(house, ["a", 1]), (("a", 0),))
        self.assertEqual(at_ranks(house)[0][0], ("a", "", (("put", "q"), ("get", "q", 1))))
