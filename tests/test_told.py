"""[14] Told back: each function against the list of all whole runs of small houses."""

import unittest
from itertools import combinations

from giveways.clash import is_same
from giveways.errors import NoStep, NoTask, Unfit
from giveways.houses import after, begin, own_run, told
from giveways.needs import needs
from giveways.orders import classes
from giveways.scripts import all_marks, task_names
from giveways.told import (
    accounts_of, always_ahead, classes_telling, ends_with, fewest_telling, is_end, is_run_ahead, is_run_telling, is_unlike_by,
    order_by, run_ahead, run_telling, sure_account, telling_tasks, unlike_by, was_taken,
)
from tests.alike import distances, marks_of
from tests.made import Refusing, Row, built, judged, listed, small_house
from tests.plain import all_plays
from tests.walked import walked

LATE = (
    built({"ann": [("put", "r")], "bo": [("get", "r", 0)], "cy": [("get", "r", ())]}),
    built({"ann": [("put", "r"), ("put", "s")], "bo": [("get", "r", 0)], "cy": [("get", "r", ())], "dan": [("get", "s", 0), ("get", "s", ())]}),
    built({"a": [("start", "c")], "b": [("cancel", "c")], "c": [("give",)]}),
    built({"a": [("start", "c")], "b": [("cancel", "c")], "c": [("give",)], "d": [("cancel", "c")]}),
    built({"a": [("cancel", "c"), ("cancel", "d")], "b": [("start", "c"), ("start", "d")], "c": [("put", "q")], "d": [("put", "q")]}),
    built({"a": [("in",), ("give",), ("out",)], "b": [("cancel", "a")]}),
)
HOUSES = []


def walked_ends():
    """Pairs of a house, its whole runs with their ends, and the Plays behind all its RUNS."""
    if not HOUSES:
        rows = [(house, all_plays(house, 4000)) for house in LATE]
        rows += [(house, plays) for house, plays, _ in walked()]
        for house, plays in rows:
            runs = {tuple(play.turns): play.state() for play in plays if not play.ready()}
            HOUSES.append((house, runs, {tuple(play.turns): play.state() for play in plays}))
    return HOUSES


def ends_of(runs):
    return sorted(set(runs.values()))


def row_of(state, task):
    return [row for row in state[1] if row[0] == task][0]


def some_accounts(house, runs, start):
    """Accounts none, one, all, such as no end has, such as only ends together have."""
    ends, row = ends_of(runs), Row(start)
    yield ()
    for state in (ends[0], ends[-1]):
        yield state[1]
        yield state[1][-1:]
        yield state[1][:1]
        yield tuple(account for account in state[1] if row.below(2))
    yield tuple((row.one_of(ends))[1][at] for at in range(len(ends[0][1])))
    first = ends[0][1][0]
    yield ((first[0], "idle", 99, ("zed", 3), (), (), ()),)
    yield (first[:2] + (first[2] + 1,) + first[3:],) + ends[0][1][1:]
    yield tuple((task, "going", 0, (), (), (), ()) for task in task_names(house))


def having(runs, accounts):
    return {run: state for run, state in runs.items() if set(accounts) <= set(state[1])}


class Ends(unittest.TestCase):
    def test_is_end(self):
        for at, (house, runs, plays) in enumerate(walked_ends()):
            ends = ends_of(runs)
            for state in set(plays.values()) | {(state[0] + 1, *state[1:]) for state in ends}:
                self.assertIs(is_end(house, state), state in ends)
                self.assertFalse(is_end(house, listed(state)))
            if at % 12 == 0:
                judged(self, lambda thing: is_end(house, thing), ends[:2], list(plays.values())[:5])
        house, runs, _ = walked_ends()[0]
        end = ends_of(runs)[0]
        self.assertFalse(is_end(house, (False,) + end[1:]))
        self.assertFalse(is_end(house, end[:1] + (list(end[1]),) + end[2:]))
        self.assertFalse(is_end(house, end[:3]))

    def test_ends_with(self):
        sizes = set()
        for at, (house, runs, _) in enumerate(walked_ends()):
            for accounts in some_accounts(house, runs, at):
                expected = ends_of(having(runs, accounts))
                self.assertEqual(ends_with(house, accounts), expected)
                self.assertEqual(ends_with(house, listed(accounts)), expected)
                sizes.add(min(3, len(expected)))
        self.assertEqual(sizes, {0, 1, 2, 3})

    def test_more_accounts_no_end_more(self):
        for house, runs, _ in walked_ends():
            for state in ends_of(runs)[:2]:
                for many in range(len(state[1])):
                    self.assertLessEqual(set(ends_with(house, state[1][:many + 1])), set(ends_with(house, state[1][:many])))


class Runs(unittest.TestCase):
    def test_run_telling(self):
        for house, runs, plays in walked_ends():
            for state in ends_of(runs)[:4]:
                self.assertEqual(runs[run_telling(house, state)], state)
                self.assertEqual(run_telling(house, listed(state)), run_telling(house, state))
                for run in list(plays)[::max(1, len(plays) // 12)]:
                    self.assertIs(is_run_telling(house, state, run), runs.get(run) == state)

    def test_is_run_telling(self):
        many = 0
        for house, runs, plays in walked_ends():
            if 2 <= len(runs) <= 10 and many < 25:
                many += 1
                state = ends_of(runs)[-1]
                right = [run for run in runs if runs[run] == state]
                judged(self, lambda thing: is_run_telling(house, state, thing), right, list(plays)[:30])
        self.assertGreater(many, 15)

    def test_classes(self):
        numbers = set()
        for house, runs, plays in walked_ends():
            lots = {}
            for run in runs:
                if run not in lots:
                    alike = distances(house, run, dict(plays))
                    lots.update(dict.fromkeys(alike, min(alike)))
            for state in ends_of(runs):
                expected = sorted({lots[run] for run in runs if runs[run] == state})
                self.assertEqual(classes_telling(house, state), expected)
                self.assertEqual(classes_telling(house, listed(state)), expected)
                numbers.add(len(expected))
            self.assertEqual(sorted(least for least, _ in classes(house)), sorted(set(lots.values())))
        self.assertLessEqual({1, 2, 4}, numbers)

    def test_a_house_of_very_many_runs(self):
        house = built({task: [("give",)] * 3 for task in "abcd"})
        run = tuple("aaabbbcccddd")
        self.assertEqual(classes_telling(house, told(house, run)), [run])
        self.assertEqual(telling_tasks(house), [()])
        vain = built({"a": [("start", "d")], "b": [("cancel", "d")], "c": [("give",)] * 4, "d": [("give",), ("give",)]})
        rows = classes_telling(vain, told(vain, ("b", "a", "d", "d", "c", "c", "c", "c")))
        self.assertEqual(rows, [("a", "c", "c", "c", "c", "d", "d", "b"), ("b", "a", "c", "c", "c", "c", "d", "d")][:len(rows)])
        self.assertEqual(len(rows), 2)


class Ahead(unittest.TestCase):
    def test_always_ahead(self):
        for house, runs, _ in walked_ends():
            for state in ends_of(runs)[:4]:
                own = [marks_of(run) for run in runs if runs[run] == state]
                expected = {(one, other) for one, other in combinations(own[0], 2)}
                for marks in own[1:]:
                    expected &= set(combinations(marks, 2))
                self.assertEqual(always_ahead(house, state), tuple(sorted(expected)))

    def test_by_what_turns_need(self):
        """Always ahead exactly if in each class the turn of the other one needs that of the one."""
        for house, runs, _ in walked_ends()[:70]:
            for state in ends_of(runs)[:3]:
                lots = []
                for run in classes_telling(house, state):
                    marks = marks_of(run)
                    lots.append({(marks[place], mark) for last, mark in enumerate(marks) for place in needs(house, run, last)})
                self.assertEqual(set(always_ahead(house, state)), set.intersection(*lots))

    def test_run_ahead(self):
        seen = {}
        for house, runs, plays in walked_ends():
            for state in ends_of(runs)[:2]:
                own = {run: marks_of(run) for run in runs if runs[run] == state}
                taken = sorted(list(own.values())[0])
                for one in taken[::2]:
                    for other in taken[::3]:
                        if one == other:
                            continue
                        right = [run for run, marks in own.items() if marks.index(one) < marks.index(other)]
                        run = run_ahead(house, state, one, other)
                        self.assertIs(run is None, not right)
                        self.assertTrue(run is None or run in right)
                        self.assertEqual(run_ahead(listed(house), listed(state), list(one), list(other)), run)
                        for thing in list(plays)[::max(1, len(plays) // 9)] + right[:1]:
                            self.assertIs(is_run_ahead(house, state, one, other, thing), thing in right)
                        key = (bool(right), len(right) == len(own))
                        seen[key] = seen.get(key, 0) + 1
        self.assertEqual(len(seen), 3)
        self.assertGreater(min(seen.values()), 100)

    def test_is_run_ahead(self):
        many = 0
        for house, runs, plays in walked_ends():
            state = ends_of(runs)[-1]
            own = {run: marks_of(run) for run in runs if runs[run] == state}
            pairs = [pair for pair in combinations(all_marks(house), 2) if all(mark in list(own.values())[0] for mark in pair)]
            if 2 <= len(own) <= 10 and pairs and many < 20:
                many += 1
                one, other = pairs[-1][::-1]
                right = [run for run, marks in own.items() if marks.index(one) < marks.index(other)]
                judged(self, lambda thing: is_run_ahead(house, state, one, other, thing), right, list(plays)[:30])
        self.assertGreater(many, 12)


class Accounts(unittest.TestCase):
    def test_accounts_of(self):
        for house, runs, _ in walked_ends():
            for task in task_names(house):
                expected = sorted({row_of(state, task) for state in runs.values()})
                self.assertEqual(accounts_of(house, task), expected)
                self.assertEqual(accounts_of(listed(house), task), expected)

    def test_sure_account(self):
        seen = set()
        for at, (house, runs, _) in enumerate(walked_ends()):
            for accounts in some_accounts(house, runs, at):
                own = having(runs, accounts)
                for task in task_names(house):
                    rows = {row_of(state, task) for state in own.values()}
                    if not rows:
                        self.assertRaises(Unfit, sure_account, house, accounts, task)
                        continue
                    self.assertEqual(sure_account(house, accounts, task), rows.pop() if len(rows) == 1 else None)
                    seen.add(len(rows) > 1)
        self.assertEqual(seen, {True, False})

    def test_was_taken(self):
        seen = set()
        for at, (house, runs, _) in enumerate(walked_ends()):
            for accounts in some_accounts(house, runs, at):
                own = having(runs, accounts)
                for mark in all_marks(house)[::2]:
                    if not own:
                        self.assertRaises(Unfit, was_taken, house, accounts, mark)
                        continue
                    taken = {mark in marks_of(run) for run in own}
                    expected = "maybe" if len(taken) == 2 else "yes" if taken == {True} else "no"
                    self.assertEqual(was_taken(house, listed(accounts), mark), expected)
                    seen.add(expected)
        self.assertEqual(seen, {"yes", "no", "maybe"})

    def test_order_by(self):
        seen = {}
        for at, (house, runs, _) in enumerate(walked_ends()):
            for accounts in list(some_accounts(house, runs, at))[::2]:
                own = [marks_of(run) for run in having(runs, accounts)]
                for one in all_marks(house)[::2]:
                    for other in all_marks(house)[::3]:
                        if one == other or not own:
                            self.assertRaises(Unfit, order_by, house, accounts, one, other)
                            continue
                        ways = {marks.index(one) < marks.index(other) for marks in own if one in marks and other in marks}
                        expected = {2: "either", 0: "none"}.get(len(ways)) or ("ahead" if True in ways else "behind")
                        self.assertEqual(order_by(house, accounts, one, other), expected)
                        seen[expected] = seen.get(expected, 0) + 1
        self.assertEqual(len(seen), 4)
        self.assertGreater(min(seen.values()), 100)

    def test_what_is_sure_stays_so_with_more_accounts(self):
        many = 0
        for house, runs, _ in walked_ends()[:90]:
            for state in ends_of(runs)[:2]:
                for cut in range(len(state[1])):
                    few, more = state[1][:cut], state[1][:cut + 1]
                    for task in task_names(house):
                        sure = sure_account(house, few, task)
                        self.assertIn(sure, (None, sure_account(house, more, task)))
                        many += sure is not None
                    for mark in all_marks(house)[::2]:
                        self.assertIn(was_taken(house, few, mark), ("maybe", was_taken(house, more, mark)))
                for one, other in list(combinations(all_marks(house), 2))[::4]:
                    few, more = order_by(house, (), one, other), order_by(house, state[1], one, other)
                    self.assertTrue(few == "either" or more in (few, "none"))
        self.assertGreater(many, 200)

    def test_accounts_that_only_ends_together_have(self):
        house = LATE[0]
        late, served = told(house, ("bo", "ann", "cy")), told(house, ("ann", "bo"))
        both = (late[1][1], served[1][2])
        self.assertEqual(ends_with(house, both), [])
        for function, rest in ((sure_account, ("ann",)), (was_taken, (("ann", 0),)), (order_by, (("ann", 0), ("bo", 0)))):
            with self.assertRaises(Unfit):
                function(house, both, *rest)


def known_by(ends, names):
    return all(any(row_of(one, name) != row_of(other, name) for name in names) for one, other in combinations(ends, 2))


class Telling(unittest.TestCase):
    def test_telling_tasks(self):
        seen = set()
        for house, runs, _ in walked_ends():
            ends, names = ends_of(runs), task_names(house)
            lots = [lot for many in range(len(names) + 1) for lot in combinations(names, many) if known_by(ends, lot)]
            expected = sorted(lot for lot in lots if not any(set(less) < set(lot) for less in lots))
            self.assertEqual(telling_tasks(house), expected)
            self.assertEqual(fewest_telling(house), min(expected, key=lambda lot: (len(lot), lot), default=None))
            if is_same(house):
                self.assertEqual((len(ends), expected), (1, [()]))
            seen.add((len(expected), min(map(len, expected), default=None)))
        self.assertLessEqual({0, 1, 2}, {many for many, _ in seen})
        self.assertLessEqual({0, 1, 2, None}, {many for _, many in seen})

    def test_unlike_by(self):
        seen, shown = set(), 0
        for house, runs, _ in walked_ends():
            ends = ends_of(runs)
            for many in range(len(task_names(house)) + 1):
                for tasks in list(combinations(task_names(house), many))[:3]:
                    right = [pair for pair in combinations(ends, 2) if not known_by(pair, tasks)]
                    found = unlike_by(house, tasks)
                    self.assertIs(found is None, not right)
                    self.assertTrue(found is None or found in right)
                    self.assertEqual(unlike_by(house, list(tasks)), found)
                    for thing in list(combinations(ends[:5], 2)):
                        self.assertIs(is_unlike_by(house, tasks, thing), thing in right)
                        self.assertFalse(is_unlike_by(house, tasks, thing[::-1]))
                    self.assertFalse(is_unlike_by(house, tasks, (ends[0], ends[0])))
                    seen.add(bool(right))
                    if right and shown < 6 and len(ends) < 5 and many:
                        shown += 1
                        judged(self, lambda thing: is_unlike_by(house, tasks, thing), right, [pair[::-1] for pair in right])
        self.assertEqual(seen, {True, False})
        self.assertEqual(shown, 6)

    def test_ends_alike_in_all_accounts(self):
        house = built({"a": [("set", "s"), ("put", "q")], "b": [("set", "s"), ("put", "r")]})
        self.assertEqual((telling_tasks(house), fewest_telling(house)), ([], None))
        pair = unlike_by(house, ("a", "b"))
        self.assertTrue(is_unlike_by(house, ("a", "b"), pair))
        self.assertEqual([state[3] for state in pair], [(("s", ("a", 0)),), (("s", ("b", 0)),)])


class Errors(Refusing, unittest.TestCase):
    house = LATE[0]
    late = told(house, ("bo", "ann", "cy"))
    account = (late[1][1],)
    nobody = (late[1][1], ("zed", "ended", 0, (), (), (), ()))

    def strange(self):
        """STATES that are no end, of other houses too, and tuples shaped like a STATE."""
        other = small_house(3)
        return (begin(self.house), after(self.house, ("ann",)), told(other, own_run(other)), (1, *self.late[1:]),
                (0, self.late[1][::-1], *self.late[2:]), (0, (), (), ()), (0, self.late[1], (), ()))

    def test_no_end(self):
        for state in self.strange():
            for shape in (state, listed(state)):
                self.refused(Unfit, None, run_telling, self.house, shape)
                self.refused(Unfit, None, is_run_telling, self.house, shape, ("bo", "ann", "cy"))
                self.refused(Unfit, None, is_run_telling, self.house, shape, None)
                self.refused(Unfit, None, classes_telling, self.house, shape)
                self.refused(Unfit, None, always_ahead, self.house, shape)
                self.refused(Unfit, None, run_ahead, self.house, shape, ("ann", 0), ("bo", 0))
                self.refused(Unfit, None, is_run_ahead, self.house, shape, ("ann", 0), ("bo", 0), ("ann", "cy", "bo"))

    def test_marks_at_an_end(self):
        served = told(self.house, ("ann", "bo"))
        for function, rest in ((run_ahead, ()), (is_run_ahead, (("ann", "bo"),)), (is_run_ahead, (7,))):
            for state in (served, begin(self.house)):
                self.refused(NoTask, "x", function, self.house, state, ("x", 9), ("y", 9), *rest)
                self.refused(NoTask, "y", function, self.house, state, ("ann", 9), ("y", 9), *rest)
                self.refused(NoStep, 9, function, self.house, state, ("ann", 9), ("bo", 8), *rest)
                self.refused(NoStep, -1, function, self.house, state, ["ann", 0], ["bo", -1], *rest)
            self.refused(Unfit, None, function, self.house, served, ("ann", 0), ("ann", 0), *rest)
            self.refused(Unfit, None, function, self.house, served, ("ann", 0), ("cy", 0), *rest)
            self.refused(Unfit, None, function, self.house, served, ["cy", 0], ["ann", 0], *rest)

    def test_accounts(self):
        none = (self.late[1][0][:1] + ("idle",) + self.late[1][0][2:],)
        self.refused(NoTask, "zed", ends_with, self.house, self.nobody)
        self.assertEqual(ends_with(self.house, none), [])
        self.refused(NoTask, "zed", sure_account, self.house, self.nobody, "x")
        self.refused(NoTask, "x", sure_account, self.house, self.account, "x")
        self.refused(NoTask, "x", sure_account, self.house, none, "x")
        self.refused(Unfit, None, sure_account, self.house, none, "ann")
        self.refused(NoTask, "zed", was_taken, self.house, listed(self.nobody), ("x", 9))
        self.refused(NoTask, "x", was_taken, self.house, none, ("x", 9))
        self.refused(NoStep, 9, was_taken, self.house, none, ("ann", 9))
        self.refused(Unfit, None, was_taken, self.house, none, ("ann", 0))
        self.refused(NoTask, "zed", order_by, self.house, self.nobody, ("x", 9), ("y", 9))
        self.refused(NoTask, "x", order_by, self.house, none, ("x", 9), ("y", 9))
        self.refused(NoTask, "y", order_by, self.house, none, ("ann", 9), ("y", 9))
        self.refused(NoStep, 9, order_by, self.house, none, ("ann", 9), ("ann", 8))
        self.refused(NoStep, 8, order_by, self.house, none, ("ann", 0), ("ann", 8))
        self.refused(Unfit, None, order_by, self.house, none, ("ann", 0), ("bo", 0))
        self.refused(Unfit, None, order_by, self.house, (), ("ann", 0), ["ann", 0])

    def test_tasks(self):
        self.refused(NoTask, "x", accounts_of, self.house, "x")
        self.refused(NoTask, "x", unlike_by, self.house, ("ann", "x", "y"))
        for thing in (None, (), 3, (self.late, self.late)):
            self.refused(NoTask, "x", is_unlike_by, self.house, ("ann", "x"), thing)

    def test_new_lists(self):
        for function, args in ((ends_with, ((),)), (classes_telling, (self.late,)), (accounts_of, ("bo",)), (telling_tasks, ())):
            first = function(self.house, *args)
            held = list(first)
            self.assertIs(type(first), list)
            first.append("more")
            self.assertEqual(function(self.house, *args), held)
