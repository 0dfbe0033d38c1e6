"""[9] Clashes, and what is the same for all orders: by the test's own turns, and against all whole runs."""

import unittest

from giveways.clash import (
    against, both_ways, clash_paper, clash_run, clashes, clashing_steps, decided_at, do_clash, is_against, is_calm,
    is_clash_paper, is_decided, is_same, is_same_paper, least_clash, parted, rivals, same_paper, shut_by, turning_places,
    two_runs,
)
from giveways.errors import NoNumber, NoStep, NotReady, NotWhole, NoTask, Unfit
from giveways.houses import after, gone_on, told
from giveways.needs import needs
from giveways.scripts import all_marks, task_names
from tests.alike import marks_of, needs_of, parts_of, walked_runs
from tests.made import Refusing, built, judged, listed, made_house, made_run
from tests.plain import played
from tests.walked import turns, walked

HOUSES = 90


def then(play, *names):
    """The STATE behind these turns, None if one of them is not ready."""
    later = play.copy()
    for name in names:
        if not later.is_ready(name):
            return None
        later.take(name)
    return later.state()


def ways(play, one, other):
    return (then(play, one, other), then(play, other, one))


def clash(play, one, other):
    return None in ways(play, one, other) or len(set(ways(play, one, other))) == 2


def pairs_at(play):
    ready = play.ready()
    return tuple((one, other) for at, one in enumerate(ready) for other in ready[at + 1:] if clash(play, one, other))


def runs():
    for number in range(HOUSES):
        house = made_house(number)
        run = made_run(house, number)
        for many in range(len(run) + 1):
            yield house, run[:many], played(house, run[:many])


def papers_of(house, run, far):
    """All CLASH PAPERS against a whole run, the needs being told by all that is alike to it."""
    told, taken = [], marks_of(run)
    for part in parts_of(needs_of(run, far)):
        play = played(house, [run[at] for at in part])
        for one, other in pairs_at(play):
            if {(one, play.number[one]), (other, play.number[other])} & set(taken):
                told.append((part, one, other))
    return told


class AlongRuns(unittest.TestCase):
    def test_clashes(self):
        seen = set()
        for house, run, play in runs():
            self.assertEqual(clashes(house, run), pairs_at(play))
            for one in task_names(house):
                for other in task_names(house):
                    if play.is_ready(one) and play.is_ready(other) and one != other:
                        self.assertIs(do_clash(house, run, one, other), clash(play, one, other))
                        self.assertEqual(both_ways(house, run, one, other), ways(play, one, other))
                        seen.add((clash(play, one, other), None in ways(play, one, other)))
        self.assertEqual(seen, {(False, False), (True, False), (True, True)})

    def test_shut_by(self):
        many = 0
        for house, run, play in runs():
            for task in play.ready():
                later = play.copy()
                later.take(task)
                expected = tuple(name for name in play.ready() if name != task and name not in later.ready())
                self.assertEqual(shut_by(house, run, task), expected)
                many += len(expected)
        self.assertGreater(many, 20)

    def test_rivals(self):
        many = 0
        for number in range(HOUSES):
            house = made_house(number)
            run = made_run(house, number)
            lots = []
            for at, task in enumerate(run):
                play = played(house, run[:at])
                lots.append(tuple(name for name in play.ready() if name != task and clash(play, task, name)))
                self.assertEqual(rivals(house, run, at), lots[-1])
            self.assertEqual(turning_places(house, run), tuple(at for at, lot in enumerate(lots) if lot))
            many += len(turning_places(house, run))
        self.assertGreater(many, 20)

    def test_parted(self):
        seen = set()
        for number in range(HOUSES):
            house = made_house(number)
            run = made_run(house, number)
            rows = [played(house, run[:many]) for many in range(len(run) + 1)]
            for one in rows[::2]:
                for other in rows:
                    mine, theirs = vars(one), vars(other)
                    parts = ("status", "number", "by", "held", "words", "diary")
                    tasks = [name for name in task_names(house) if any(mine[part][name] != theirs[part][name] for part in parts)]
                    queues = [queue for queue in sorted(one.lying) if (one.lying[queue], one.puts[queue]) != (
                        other.lying[queue], other.puts[queue])]
                    signals = [signal for signal in sorted(one.setter) if one.setter[signal] != other.setter[signal]]
                    expected = (tuple(tasks), tuple(queues), tuple(signals))
                    self.assertEqual(parted(one.state(), other.state()), expected)
                    self.assertEqual(parted(listed(one.state()), other.state()), expected)
                    seen.add(tuple(bool(part) for part in expected))
        self.assertLessEqual({(False, False, False), (True, False, False), (True, True, False), (True, True, True)}, seen)

    def test_a_put_and_a_get_of_what_lies_there(self):
        many = 0
        for house, plays, _ in walked():
            for play in plays[:80]:
                for one in play.ready():
                    for other in play.ready():
                        word, *rest = play.next(one)
                        if word == "put" and play.next(other)[:2] == ("get", rest[0]) and play.lying[rest[0]]:
                            many += 1
                            self.assertFalse(do_clash(house, tuple(play.turns), one, other))
        self.assertGreater(many, 3)


class Same(unittest.TestCase):
    def test_is_same(self):
        seen = []
        for house, _, wholes in walked():
            expected = len({play.state() for play in wholes}) == 1
            self.assertIs(is_same(house), expected)
            seen.append(expected)
        self.assertGreater(min(seen.count(True), seen.count(False)), 30)

    def test_all_whole_runs_are_calm_or_none_is(self):
        for house, _, wholes in walked():
            same = len({play.state() for play in wholes}) == 1
            for run in turns(wholes)[:5] + turns(wholes)[-3:]:
                self.assertIs(is_calm(house, run), same)

    def test_behind_no_run_if_same(self):
        for house, plays, wholes in walked():
            if is_same(house):
                self.assertEqual(clashing_steps(house), ())
                self.assertEqual({play.ready() and pairs_at(play) for play in plays}, {()})
                self.assertEqual(len({tuple(sorted(run)) for run in turns(wholes)}), 1)

    def test_against(self):
        for house, _, wholes in walked():
            told_by = {tuple(play.turns): play.state() for play in wholes}
            pair = against(house)
            if len(set(told_by.values())) == 1:
                self.assertIsNone(pair)
            else:
                self.assertEqual(len(pair), 2)
                self.assertNotEqual(told_by[pair[0]], told_by[pair[1]])
                self.assertTrue(is_against(house, pair))

    def test_is_against(self):
        many = 0
        for house, plays, wholes in walked():
            if len(wholes) <= 6 and many < 40:
                many += 1
                right = [(one, other) for one in turns(wholes) for other in turns(wholes)
                         if told(house, one) != told(house, other)]
                others = [(one, other) for one in turns(plays)[:20] for other in turns(plays)[-6:]]
                judged(self, lambda thing: is_against(house, thing), right, others)
        self.assertEqual(many, 40)

    def test_same_paper(self):
        many = 0
        for house, _, wholes in walked():
            paper = same_paper(house)
            if len({play.state() for play in wholes}) > 1:
                self.assertIsNone(paper)
                continue
            many += 1
            run, lots = paper
            self.assertIn(run, turns(wholes))
            self.assertEqual(lots, tuple(needs(house, run, place) for place in range(len(run))))
            self.assertTrue(is_same_paper(house, paper))
        self.assertGreater(many, 20)

    def test_is_same_paper(self):
        many = 0
        for house, plays, wholes in walked():
            if len(wholes) > 8 or many >= 30:
                continue
            many += 1
            papers = [(run, tuple(needs(house, run, place) for place in range(len(run)))) for run in turns(plays)]
            right = [paper for paper in papers if is_same(house) and paper[0] in turns(wholes)]
            judged(self, lambda thing: is_same_paper(house, thing), right, papers[:30])


class Papers(unittest.TestCase):
    def test_all(self):
        most = 0
        for house, run, known, far in walked_runs(3):
            if played(house, run).ready():
                continue
            papers = papers_of(house, run, far)
            one = clash_paper(house, run)
            self.assertTrue(one in papers if papers else one is None, (house, run))
            self.assertIs(is_clash_paper(house, run, one), bool(papers))
            best = min(papers, key=lambda paper: (len(paper[0]), paper), default=None)
            self.assertEqual(least_clash(house, run), best)
            for paper in papers:
                self.assertTrue(is_clash_paper(house, run, paper))
                pair = two_runs(house, run, *paper)
                part, one, other = paper
                front = tuple(run[at] for at in part)
                for told_run, names in zip(pair, ((one, other), (other, one))):
                    begun = front + names if then(played(house, front), *names) else front + names[:1]
                    self.assertEqual(told_run, gone_on(house, begun))
                self.assertNotEqual(told(house, pair[0]), told(house, pair[1]))
                self.assertTrue(is_against(house, pair))
            most = max(most, len(papers))
        self.assertGreater(most, 5)

    def test_is_clash_paper(self):
        many = 0
        for house, run, known, far in walked_runs(1):
            papers = papers_of(house, run, far)
            if len(papers) in (1, 2, 3, 4) and many < 25:
                many += 1
                turned = [(part, other, one) for part, one, other in papers]
                others = [(part, one, other) for part in parts_of(needs_of(run, far))
                          for one in task_names(house) for other in task_names(house)]
                judged(self, lambda thing: is_clash_paper(house, run, thing), papers, turned + others[:150])
                for part, one, other in turned:
                    with self.assertRaises(Unfit):
                        two_runs(house, run, part, one, other)
        self.assertGreater(many, 15)

    def test_the_next_step_of_one_is_enough(self):
        house = built({"a": [("put", "q")], "b": [("get", "q", ())], "c": [("get", "q", ())]})
        self.assertEqual(least_clash(house, ("a", "b")), ((0,), "b", "c"))
        self.assertEqual(least_clash(house, ("a", "c")), ((0,), "b", "c"))
        self.assertTrue(is_clash_paper(house, ("a", "b"), ((0,), "b", "c")))
        self.assertEqual(two_runs(house, ("a", "b"), (0,), "b", "c"), (("a", "b"), ("a", "c")))
        self.assertEqual(two_runs(house, ["a", "b"], [0], "b", "c"), (("a", "b"), ("a", "c")))

    def test_the_next_step_of_neither(self):
        """Behind a part two tasks may clash at STEPS that the run never takes: that is no paper."""
        seen = 0
        for house, run, known, far in walked_runs(3):
            if played(house, run).ready():
                continue
            papers = papers_of(house, run, far)
            for part in parts_of(needs_of(run, far)):
                for one, other in pairs_at(played(house, [run[at] for at in part])):
                    if (part, one, other) not in papers:
                        seen += 1
                        self.assertFalse(is_clash_paper(house, run, (part, one, other)))
        self.assertGreaterEqual(seen, 0)


class Steps(unittest.TestCase):
    def test_clashing_steps_and_runs(self):
        seen = 0
        for house, plays, _ in walked():
            known = {}
            for play in plays:
                for pair in pairs_at(play):
                    marks = tuple((name, play.number[name]) for name in pair)
                    known.setdefault(marks, []).append(tuple(play.turns))
            self.assertEqual(clashing_steps(house), tuple(sorted(known)))
            seen += len(known)
            every = all_marks(house)
            for mark in every[::2]:
                for far in every[:6]:
                    best = min(known.get(tuple(sorted((mark, far))), []), key=lambda run: (len(run), run), default=None)
                    self.assertEqual(clash_run(house, mark, far), best)
                    self.assertEqual(clash_run(house, far, mark), best)
        self.assertGreater(seen, 100)

    def test_decided(self):
        seen = set()
        for house, plays, wholes in walked():
            for run in turns(plays)[::max(1, len(plays) // 6)] + turns(wholes)[-1:]:
                def ends_from(many):
                    return {play.state() for play in wholes if tuple(play.turns[:many]) == run[:many]}
                self.assertIs(is_decided(house, run), len(ends_from(len(run))) == 1)
                best = next((many for many in range(len(run) + 1) if len(ends_from(many)) == 1), None)
                self.assertEqual(decided_at(house, run), best)
                self.assertEqual(decided_at(house, run) == 0, is_same(house))
                seen.add(best)
        self.assertLessEqual({None, 0, 1, 2, 3}, seen)


class Errors(Refusing, unittest.TestCase):
    house = built({"a": [("put", "q"), ("give",)], "b": [("get", "q", ())], "c": [("give",)]})

    def test_choices(self):
        rows = ((do_clash, "a", "c"), (clashes,), (shut_by, "a"), (both_ways, "a", "c"), (rivals, 99), (turning_places,),
                (is_calm,), (clash_paper,), (is_clash_paper, 0), (least_clash,), (two_runs, (99,), "a", "a"), (is_decided,),
                (decided_at,))
        for function, *rest in rows:
            self.refused(NoTask, "z", function, self.house, ("b", "z", "y"), *rest)
            self.refused(NotReady, "b", function, self.house, ["c", "b", "a", "a", "a"], *rest)

    def test_tasks_ahead_of_choices(self):
        for function in (do_clash, both_ways):
            self.refused(NoTask, "x", function, self.house, ("z",), "x", "y")
            self.refused(NoTask, "y", function, self.house, ("z",), "a", "y")
            self.refused(NoTask, "z", function, self.house, ("b", "z"), "a", "a")
            self.refused(NotReady, "c", function, self.house, ("c",), "c", "b")
            self.refused(NotReady, "b", function, self.house, ("c",), "a", "b")
            self.refused(NotReady, "b", function, self.house, ("c",), "b", "b")
            self.refused(Unfit, None, function, self.house, ("c",), "a", "a")
        self.refused(NoTask, "x", shut_by, self.house, ("z",), "x")
        self.refused(NotReady, "b", shut_by, self.house, ("c",), "b")
        self.refused(NoTask, "x", two_runs, self.house, ("z",), (), "x", "y")
        self.refused(NoTask, "y", two_runs, self.house, ("z",), (), "a", "y")

    def test_numbers(self):
        for number in (2, -1, 10 ** 30):
            self.refused(NoNumber, number, rivals, self.house, ("a", "c"), number)
        self.refused(NoTask, "x", clash_run, self.house, ("x", 9), ("y", 9))
        self.refused(NoTask, "y", clash_run, self.house, ("a", 9), ("y", 9))
        self.refused(NoStep, 2, clash_run, self.house, ("a", 2), ("b", 9))
        self.refused(NoStep, -1, clash_run, self.house, ("a", 0), ("b", -1))

    def test_not_whole(self):
        for function, *rest in ((is_calm,), (clash_paper,), (is_clash_paper, 0), (least_clash,), (two_runs, (), "a", "b")):
            self.refused(NotWhole, None, function, self.house, ("a", "b"), *rest)
        whole = ("a", "b", "a", "c")
        for part, one, other in (((), "a", "c"), ((0,), "a", "b"), ((7,), "a", "b"), ((-1,), "b", "b"), ((1, 0), "a", "c")):
            self.refused(Unfit, None, two_runs, self.house, whole, part, one, other)

    def test_lists(self):
        house = listed(self.house)
        self.assertEqual(clash_run(house, ["a", 0], ["b", 0]), None)
        self.assertEqual((do_clash(house, ["a"], "a", "b"), clashes(house, []), is_same(house)), (False, (), True))
        self.assertEqual(after(house, []), after(self.house, ()))
        self.assertEqual(made_run(self.house, 1)[:0], ())
