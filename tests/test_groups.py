"""[7] Groups, shields, and who is to blame: along runs, by the test's own turns; errors."""

import unittest

from giveways.errors import NoGroup, NoStep, NotReady, NoTask, Unfit
from giveways.groups import (
    asked, below, biting, blame, came_out, first_causes, held_back, hosted, how_many_blames, is_blame, is_never_cut,
    keeping_shields, least_shield, mates, may_come_out, may_fail, may_stop, never_stopped, shields, stopped_by, with_cancel,
    with_shield, without_shield, words_in,
)
from giveways.houses import after
from giveways.scripts import is_house, script_of, task_names, with_step, without_step
from tests.made import Refusing, built, judged, listed, made_house, made_run
from tests.plain import group_mates, group_tasks, hosted_tasks, played, script
from tests.walked import walked

HOUSES = 200


def runs():
    """Many houses, each with a whole run and with the runs that begin it."""
    for number in range(HOUSES):
        house = made_house(number)
        run = made_run(house, number)
        for many in {0, len(run) // 2, 3 * len(run) // 4, len(run)}:
            yield house, run[:many], played(house, run[:many])
    for house, plays, wholes in walked():
        for play in wholes[:6]:
            yield house, tuple(play.turns), play


def blames(play, task):
    """All BLAMES of a task by the table, as the logged events tell."""
    failed = {name: (mark, words) for name, mark, words in play.events("failed")}
    stopped = {name: mark for name, mark, _ in play.events("stopped")}
    if task in failed:
        mark = failed[task][0]
        word, what = script(play.house, task)[mark[1]]
        if word == "fail":
            return [((task, "own", mark),)]
        inner = [name for name in group_tasks(play.house, what) if name in failed]
        return [((task, "group", mark),) + rest for name in inner for rest in blames(play, name)]
    if task not in stopped:
        return []
    mark = stopped[task]
    if script(play.house, mark[0])[mark[1]] == ("cancel", task):
        return [((task, "cancel", mark),)]
    told = [("mate", name) for name in group_mates(play.house, task) if name in failed and failed[name][0] == mark]
    told += [("host", name) for name in task_names(play.house) if task in hosted_tasks(play.house, name)
             and mark in (stopped.get(name), failed.get(name, ((),))[0])]
    assert told
    return [((task, why, mark),) + rest for why, name in told for rest in blames(play, name)]


class Houses(unittest.TestCase):
    house = built({"a": [("start", "b"), ("in",), ("start", "c"), ("out",), ("close", "g"), ("start", "f"), ("catch", "k")],
                   "b in g": [("start", "d"), ("start", "e"), ("close", "h")], "c in g": [], "d in h": [], "e in h": [],
                   "f in k": []}, {"g": "a", "h": "b", "k": "a"})

    def test_hosted(self):
        self.assertEqual([hosted(self.house, name) for name in "abcdef"], [("g", "k"), ("h",), (), (), (), ()])

    def test_mates(self):
        self.assertEqual([mates(self.house, name) for name in "abcdef"], [(), ("c",), ("b",), ("e",), ("d",), ()])

    def test_below(self):
        self.assertEqual([below(self.house, name) for name in "abcdef"],
                         [("b", "c", "d", "e", "f"), ("d", "e"), (), (), (), ()])

    def test_many(self):
        for number in range(HOUSES):
            house = made_house(number)
            for name in task_names(house):
                self.assertEqual(hosted(house, name), tuple(group for group, host in house[1] if host == name))
                self.assertEqual(mates(house, name), tuple(sorted(group_mates(house, name))))
                found = hosted_tasks(house, name)
                for other in found:
                    found += hosted_tasks(house, other)
                self.assertEqual(below(house, name), tuple(sorted(found)))

    def test_shields(self):
        house = built({"a": [("in",), ("in",), ("give",), ("out",), ("give",), ("in",), ("out",), ("out",), ("in",), ("out",)],
                       "b": [("give",)]})
        self.assertEqual(shields(house, "a"), ((0, 7), (1, 3), (5, 6), (8, 9)))
        self.assertEqual(shields(house, "b"), ())


class AlongRuns(unittest.TestCase):
    def test_asked(self):
        seen = set()
        for house, run, play in runs():
            for name in task_names(house):
                if not play.is_ready(name):
                    with self.assertRaises(NotReady):
                        asked(house, run, name)
                    continue
                later = play.copy()
                later.log.clear()
                later.take(name)
                self.assertEqual(asked(house, run, name), tuple(later.events("asked")), (house, run, name))
                seen.update((word, name == other) for other, word in later.events("asked"))
        self.assertLessEqual({("stops", True), ("stops", False), ("held", False), ("nothing", False)}, seen)

    def test_asked_in_order(self):
        house = built({"a": [("start", "b"), ("start", "c"), ("start", "f"), ("fail", "x"), ("close", "h"), ("close", "g")],
                       "b in h": [("start", "d"), ("start", "e"), ("close", "k")], "c in g": [("give",)],
                       "d in k": [("in",), ("give",), ("out",)], "e in k": [("give",)], "f in h": [("give",)]},
                      {"g": "a", "h": "a", "k": "b"})
        run = ("a", "a", "a", "b", "b", "d")
        self.assertEqual(asked(house, run, "a"), (("c", "stops"), ("b", "stops"), ("d", "held"), ("e", "stops"), ("f", "stops")))
        self.assertEqual(asked(house, run + ("a", "d"), "d"), (("d", "stops"),))

    def test_asked_by_an_out(self):
        house = built({"a": [("in",), ("start", "b"), ("in",), ("out",), ("out",), ("close", "g")], "b in g": [("give",)],
                       "c": [("cancel", "a"), ("cancel", "a")]}, {"g": "a"})
        run = ("a", "a", "c")
        self.assertEqual(asked(house, run, "c"), (("a", "nothing"),))
        self.assertEqual(asked(house, run[:2], "c"), (("a", "held"),))
        self.assertEqual(asked(house, run + ("a",), "a"), ())
        self.assertEqual(asked(house, run + ("a", "a"), "a"), (("a", "stops"), ("b", "stops")))
        self.assertEqual(asked(house, run + ("a", "a", "b"), "a"), (("a", "stops"), ("b", "nothing")))
        self.assertEqual(asked(house, run[:2] + ("a", "a"), "a"), ())

    def test_held_back(self):
        many = 0
        for house, run, play in runs():
            expected = tuple((name, play.held[name]) for name in task_names(house)
                             if play.held[name] and play.status[name] == "going")
            self.assertEqual(held_back(house, run), expected)
            many += len(expected)
        self.assertGreater(many, 10)

    def test_stopped_by(self):
        many = 0
        for house, run, play in runs():
            marks = {name: mark for name, mark, _ in play.events("stopped")}
            for name in task_names(house):
                self.assertEqual(stopped_by(house, run, name), marks.get(name))
            many += len(marks)
        self.assertGreater(many, 30)

    def test_words(self):
        seen = set()
        for house, run, play in runs():
            for group, _ in house[1]:
                words = {word for name in group_tasks(house, group) for word in play.words[name]}
                self.assertEqual(words_in(house, run, group), tuple(sorted(words)))
                told = dict(play.events("closed")).get(group)
                self.assertEqual(came_out(house, run, group), told)
                seen.add(told)
        self.assertLessEqual({None, (), ("x",), ("x", "y")}, seen)


class Blames(unittest.TestCase):
    def test_along_runs(self):
        whys, numbers = set(), set()
        for house, run, play in runs():
            for name in task_names(house):
                known = blames(play, name)
                self.assertEqual(how_many_blames(house, run, name), len(known))
                self.assertEqual(first_causes(house, run, name), tuple(sorted({told[-1][2] for told in known})))
                one = blame(house, run, name)
                self.assertTrue(one in known if known else one is None)
                self.assertIs(is_blame(house, run, name, one), bool(known))
                for told in known:
                    self.assertTrue(is_blame(house, run, name, told))
                whys.update(triple[1] for told in known for triple in told)
                numbers.add(len(known))
        self.assertEqual(whys, {"own", "group", "cancel", "mate", "host"})
        self.assertLessEqual({0, 1, 2}, numbers)

    def test_one_after_another(self):
        for house, run, play in runs():
            turn_of = {mark: number for number, (mark,) in enumerate(play.events("taken"))}
            for name in task_names(house):
                is_gone = play.status[name] in ("stopped", "failed")
                self.assertEqual(blame(house, run, name) is not None, is_gone)
                if is_gone:
                    at = [turn_of[mark] for _, _, mark in blame(house, run, name)]
                    self.assertEqual(at, sorted(at, reverse=True))

    def test_is_blame(self):
        many = 0
        for house, run, play in list(runs())[::3]:
            for name in task_names(house):
                known = blames(play, name)
                if known and many < 60:
                    many += 1
                    judged(self, lambda thing: is_blame(house, run, name, thing), known,
                           [told for other in task_names(house) for told in blames(play, other) if other != name])
        self.assertEqual(many, 60)
        judged(self, lambda thing: is_blame(built({"a": [("fail", "w")]}), (), "a", thing), [])
        judged(self, lambda thing: is_blame(built({"a": [("fail", "w")]}), ("a",), "a", thing), [(("a", "own", ("a", 0)),)])

    def test_several(self):
        house = built({"a in g": [("fail", "x")], "b in g": [("in",), ("fail", "y"), ("out",)],
                       "c in g": [("in",), ("fail", "x"), ("out",)],
                       "h in k": [("start", "a"), ("start", "b"), ("start", "c"), ("close", "g")],
                       "m in k": [("in",), ("give",), ("out",)],
                       "z": [("start", "h"), ("start", "m"), ("close", "k")]}, {"g": "h", "k": "z"})
        run = ("z", "z", "m", "h", "h", "h", "b", "c", "a", "b", "c", "h", "m", "m", "z")
        ends = [(("a", "own", ("a", 0)),), (("b", "own", ("b", 1)),), (("c", "own", ("c", 1)),)]
        for task, front in (("h", (("h", "group", ("h", 3)),)),
                            ("m", (("m", "mate", ("h", 3)), ("h", "group", ("h", 3)))),
                            ("z", (("z", "group", ("z", 2)), ("h", "group", ("h", 3))))):
            self.assertEqual(how_many_blames(house, run, task), 3)
            self.assertIn(blame(house, run, task), [front + end for end in ends])
            self.assertEqual(first_causes(house, run, task), (("a", 0), ("b", 1), ("c", 1)))
            judged(self, lambda thing: is_blame(house, run, task, thing), [front + end for end in ends])

    def test_none(self):
        house = built({"a": [("give",), ("fail", "w")], "b": [("give",)]})
        for run, task in (((), "a"), (("a",), "a"), (("a", "a", "b"), "b")):
            self.assertIsNone(blame(house, run, task))
            self.assertEqual((how_many_blames(house, run, task), first_causes(house, run, task)), (0, ()))


class Changes(unittest.TestCase):
    def test_with_cancel(self):
        for number in range(60):
            house = made_house(number)
            for task in task_names(house):
                for place in range(len(script_of(house, task)) + 1):
                    for name in task_names(house):
                        if name == task:
                            with self.assertRaises(Unfit):
                                with_cancel(house, task, place, name)
                            continue
                        changed = with_cancel(house, task, place, name)
                        self.assertEqual(changed, with_step(house, task, place, ("cancel", name)))
                        self.assertEqual(without_step(changed, task, place), house)

    def test_shields_there_and_back(self):
        seen = set()
        for number in range(80):
            house = made_house(number)
            for task in task_names(house):
                steps = script_of(house, task)
                for first in range(len(steps)):
                    for last in range(len(steps)):
                        crossed = any((first <= pair[0] <= last) != (first <= pair[1] <= last) for pair in shields(house, task))
                        seen.add((crossed, first <= last))
                        if crossed or last < first:
                            with self.assertRaises(Unfit):
                                with_shield(house, task, first, last)
                            continue
                        changed = with_shield(house, task, first, last)
                        self.assertTrue(is_house(changed))
                        self.assertEqual(script_of(changed, task),
                                         steps[:first] + (("in",),) + steps[first:last + 1] + (("out",),) + steps[last + 1:])
                        self.assertEqual(changed[1:], house[1:])
                        self.assertIn((first, last + 2), shields(changed, task))
                        self.assertEqual(without_shield(changed, task, first), house)
        self.assertEqual(seen, {(True, True), (False, True), (False, False)} | ({(True, False)} & seen))

    def test_without_shield(self):
        house = built({"a": [("in",), ("in",), ("give",), ("out",), ("in",), ("out",), ("out",)]})
        self.assertEqual(script_of(without_shield(house, "a", 0), "a"), (("in",), ("give",), ("out",), ("in",), ("out",)))
        self.assertEqual(script_of(without_shield(house, "a", 1), "a"), (("in",), ("give",), ("in",), ("out",), ("out",)))
        self.assertEqual(script_of(without_shield(house, "a", 4), "a"), (("in",), ("in",), ("give",), ("out",), ("out",)))
        for number in (2, 3, 5, 6):
            with self.assertRaises(Unfit):
                without_shield(house, "a", number)


class Guarantees(unittest.TestCase):
    def test_behind_a_close_all_are_over(self):
        for house, run, play in runs():
            for group, _ in house[1]:
                if came_out(house, run, group) is not None:
                    for name in group_tasks(house, group):
                        self.assertIn(play.status[name], ("ended", "stopped", "failed"))

    def test_without_cancel_and_fail(self):
        for house, run, play in runs():
            if not {"cancel", "fail"} & {step[0] for row in house[0] for step in row[2]}:
                for name in task_names(house):
                    self.assertEqual((blame(house, run, name), stopped_by(house, run, name)), (None, None))

    def test_from_an_in_to_its_out(self):
        for house, run, play in runs():
            if play.ready():
                continue
            for name in task_names(house):
                for first, last in shields(house, name):
                    if play.number[name] > first:
                        self.assertTrue(play.number[name] > last or play.status[name] in ("failed", "going"))

    def test_alone_stopped_by_a_cancel_only(self):
        for house, run, play in runs():
            for name in task_names(house):
                if not hosted(house, name) and not mates(house, name) and stopped_by(house, run, name):
                    if [row[1] for row in house[0] if row[0] == name] == [""]:
                        mark = stopped_by(house, run, name)
                        self.assertEqual(script(house, mark[0])[mark[1]], ("cancel", name))


class Errors(Refusing, unittest.TestCase):
    house = built({"a": [("start", "b"), ("hear", "s", ()), ("close", "g")], "b in g": [("in",), ("give",), ("out",)],
                   "c": [("give",)]}, {"g": "a"})

    def test_task(self):
        house = self.house
        for function, rest in ((hosted, ()), (mates, ()), (below, ()), (shields, ()), (may_stop, ()), (may_fail, ()),
                               (is_never_cut, ()), (keeping_shields, ()), (least_shield, ()), (biting, ("y",)),
                               (with_cancel, (99, "y")), (with_shield, (99, 98)), (without_shield, (99,))):
            self.refused(NoTask, "x", function, house, "x", *rest)
        self.refused(NoTask, "y", biting, house, "a", "y")
        self.refused(NoTask, "y", with_cancel, house, "a", 99, "y")

    def test_task_ahead_of_choices(self):
        house = self.house
        for function, rest in ((asked, ()), (stopped_by, ()), (blame, ()), (is_blame, (1,)), (how_many_blames, ()),
                               (first_causes, ())):
            self.refused(NoTask, "x", function, house, ("z", "b"), "x", *rest)
            self.refused(NoTask, "z", function, house, ("b", "z"), "a", *rest)
            self.refused(NotReady, "b", function, house, ["b"], "a", *rest)
        self.refused(NotReady, "b", asked, house, ("b",), "b")
        self.refused(NotReady, "a", asked, house, ("a",), "a")
        self.refused(NoTask, "z", held_back, house, ("b", "z"))
        self.refused(NotReady, "b", held_back, house, ("b", "a"))

    def test_group_between(self):
        house = self.house
        for function in (words_in, came_out):
            self.refused(NoTask, "z", function, house, ("b", "z"), "k")
            self.refused(NoGroup, "k", function, house, ("b",), "k")
            self.refused(NoGroup, "a", function, house, (), "a")
            self.refused(NotReady, "b", function, house, ("b",), "g")
        self.refused(NoGroup, "", may_come_out, house, "")

    def test_numbers(self):
        house = self.house
        for number in (4, -1, 10 ** 30):
            self.refused(NoStep, number, with_cancel, house, "a", number, "a")
            self.refused(NoStep, number, without_shield, house, "a", number)
            self.refused(NoStep, number, with_shield, house, "a", number, -7)
            self.refused(NoStep, number, with_shield, house, "a", 2, number)
        self.refused(NoStep, 3, without_shield, house, "a", 3)
        self.refused(NoStep, 3, with_shield, house, "a", 2, 3)
        self.refused(Unfit, None, with_cancel, house, "a", 3, "a")
        self.refused(Unfit, None, biting, house, "a", "a")
        self.refused(Unfit, None, with_shield, house, "a", 2, 1)
        self.refused(Unfit, None, with_shield, house, "b", 0, 1)
        self.refused(Unfit, None, with_shield, house, "b", 1, 2)
        self.refused(Unfit, None, without_shield, house, "b", 2)
        self.assertEqual(with_shield(house, "b", 1, 1)[0][1][2], (("in",), ("in",), ("give",), ("out",), ("out",)))

    def test_lists(self):
        house = listed(self.house)
        self.assertEqual(asked(house, ["a", "b"], "b"), ())
        self.assertEqual(came_out(house, ["a"], "g"), None)
        self.assertEqual(with_shield(house, "c", 0, 0)[0][2], ("c", "", (("in",), ("give",), ("out",))))
        self.assertEqual(with_cancel(house, "c", 1, "a")[0][2], ("c", "", (("give",), ("cancel", "a"))))
        self.assertEqual(never_stopped(house), ("a", "b", "c"))
        self.assertEqual(after(house, ["a"]), after(self.house, ("a",)))
