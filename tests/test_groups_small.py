"""[7] What may come in some run, and which shields keep a task, against all whole runs of small houses."""

import unittest

from giveways.errors import Unfit
from giveways.groups import (
    biting, is_never_cut, keeping_shields, least_shield, may_come_out, may_fail, may_stop, never_stopped, with_cancel,
    with_shield,
)
from giveways.scripts import script_of, task_names
from tests.made import built
from tests.plain import whole_plays
from tests.walked import walked


def stops(wholes, task):
    return {(number, mark) for play in wholes for name, mark, number in play.events("stopped") if name == task}


def is_cut(house, wholes, task):
    return any(number < len(script_of(house, task)) for number, _ in stops(wholes, task))


class InSomeRun(unittest.TestCase):
    def test_may_stop(self):
        most = 0
        for house, _, wholes in walked():
            for task in task_names(house):
                expected = stops(wholes, task)
                self.assertEqual(may_stop(house, task), tuple(sorted(expected)))
                most = max(most, len(expected))
            self.assertEqual(never_stopped(house), tuple(task for task in task_names(house) if not stops(wholes, task)))
        self.assertGreater(most, 2)

    def test_may_fail(self):
        seen = set()
        for house, _, wholes in walked():
            for task in task_names(house):
                expected = {words for play in wholes for name, _, words in play.events("failed") if name == task}
                self.assertEqual(may_fail(house, task), tuple(sorted(expected)))
                seen.update(expected)
        self.assertLessEqual({("x",), ("x", "y")}, seen)

    def test_may_come_out(self):
        seen = set()
        for house, _, wholes in walked():
            for group, _ in house[1]:
                expected = {words for play in wholes for name, words in play.events("closed") if name == group}
                self.assertEqual(may_come_out(house, group), tuple(sorted(expected)))
                seen.add(len(expected))
        self.assertLessEqual({0, 1, 3}, seen)

    def test_biting(self):
        many = 0
        for house, _, _ in walked():
            if sum(len(row[2]) for row in house[0]) > 8:
                continue
            for task in task_names(house)[:2]:
                for name in task_names(house):
                    if name == task:
                        with self.assertRaises(Unfit):
                            biting(house, task, name)
                        continue
                    expected = []
                    for number in range(len(script_of(house, task)) + 1):
                        wholes = whole_plays(with_cancel(house, task, number, name), 10 ** 5)
                        if (task, number) in [mark for _, mark in stops(wholes, name)]:
                            expected.append(number)
                    self.assertEqual(biting(house, task, name), tuple(expected))
                    many += len(expected)
        self.assertGreater(many, 50)


class Keeping(unittest.TestCase):
    def test_never_cut(self):
        seen = set()
        for house, _, wholes in walked():
            for task in task_names(house):
                self.assertIs(is_never_cut(house, task), not is_cut(house, wholes, task))
                seen.add((is_cut(house, wholes, task), bool(stops(wholes, task))))
        self.assertEqual(seen, {(False, False), (True, True), (False, True)})

    def test_shields(self):
        seen = set()
        for house, _, wholes in walked():
            if sum(len(row[2]) for row in house[0]) > 9:
                continue
            for task in task_names(house):
                cut = is_cut(house, wholes, task)
                if not cut:
                    self.assertEqual(least_shield(house, task), ())
                    if stops(wholes, task) == set():
                        continue
                keeping = []
                for first in range(len(script_of(house, task))):
                    for last in range(first, len(script_of(house, task))):
                        try:
                            changed = with_shield(house, task, first, last)
                        except Unfit:
                            continue
                        if not is_cut(changed, whole_plays(changed, 10 ** 5), task):
                            keeping.append((first, last))
                self.assertEqual(keeping_shields(house, task), keeping)
                if cut:
                    best = min(keeping, key=lambda pair: (pair[1] - pair[0], pair)) if keeping else None
                    self.assertEqual(least_shield(house, task), best)
                seen.add((cut, len(keeping)))
        self.assertTrue([many for cut, many in seen if cut and many > 1])
        self.assertIn((True, 0), seen)

    def test_the_shortest_ahead_of_the_least(self):
        house = built({"a": [("hear", "s", ()), ("cancel", "b")],
                       "b": [("give",), ("set", "s"), ("give",)]})
        self.assertEqual(keeping_shields(house, "b"), [(0, 2), (1, 2)])
        self.assertEqual(least_shield(house, "b"), (1, 2))

    def test_a_new_list_each_time(self):
        house = built({"a": [("hear", "s", ()), ("cancel", "b")], "b": [("set", "s"), ("put", "q")]})
        told = keeping_shields(house, "b")
        told.append("more")
        self.assertEqual(keeping_shields(house, "b"), [(0, 1)])
