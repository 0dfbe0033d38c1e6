"""[11] Ends: at the STATES of many runs by the test's own reading, and against all whole runs of small houses."""

import unittest
from itertools import combinations

from giveways.clash import is_same
from giveways.ends import (
    could_stop, fates, fence, greatest_knot, in_rings, is_fence, is_knot, is_run_to_failed, is_run_to_fate, is_run_with_words,
    is_waiting, live, lost_from, row_of_waits, run_to_failed, run_to_fate, run_with_words, standing_run, surely_over, waits_for,
    words_told,
)
from giveways.errors import NoGroup, NotReady, NoTask
from giveways.houses import after, begin
from giveways.scripts import task_names
from tests.made import Refusing, built, judged, listed, made_house, made_run
from tests.plain import group_mates, group_tasks, hosted_tasks, played, script
from tests.walked import turns, walked

HOUSES = 120
STATUSES = ("idle", "going", "ended", "stopped", "failed")


def left(play, name):
    return script(play.house, name)[play.number[name]:] if play.status[name] in ("idle", "going") else ()


def alive(play):
    """The live tasks, by going over all again and again."""
    found = {name for name in play.status if play.status[name] == "going"}
    for _ in play.status:
        found |= {name for name in play.status if play.status[name] == "idle"
                  and any(("start", name) in left(play, other) for other in found)}
    return found


def stands(play, name):
    if play.status[name] != "going" or play.is_ready(name):
        return False
    step = play.next(name)
    return step[0] != "until" and not (step[0] in ("get", "hear", "join") and step[2] != ())


def waited(play, name):
    lives = alive(play)
    if play.status[name] == "idle" and name in lives:
        return {other for other in lives if ("start", name) in left(play, other)}
    if not stands(play, name):
        return set()
    word, what = play.next(name)[:2]
    if word == "join":
        return lives & {what}
    if word in ("close", "catch"):
        return {other for other in group_tasks(play.house, what) if play.status[other] == "going"}
    helping = {"put": "get", "get": "put", "hear": "set"}[word]
    return {other for other in lives - {name} if any(step[:2] == (helping, what) for step in left(play, other))}


def line(house, name):
    row = [name]
    for one in row:
        row += [other for other in task_names(house) if one in hosted_tasks(house, other)]
    return row


def stoppers(play, name):
    if play.status[name] != "going" or play.shields(name) > 0:
        return set()
    row = line(play.house, name)
    mates = {other for one in row for other in group_mates(play.house, one)}
    told = set()
    for other in alive(play) - {name}:
        words = {step[0] for step in left(play, other)}
        if any(step[0] == "cancel" and step[1] in row for step in left(play, other)):
            told.add(other)
        if words & {"fail", "close"} and (other in row or other in mates):
            told.add(other)
        if "out" in words and other in row and play.held[other] != ():
            told.add(other)
    return told


def is_right_knot(play, names):
    if not names <= alive(play):
        return False
    for name in names:
        if play.status[name] == "idle":
            if not waited(play, name) <= names:
                return False
        elif not stands(play, name) or not stoppers(play, name) <= names:
            return False
        elif play.next(name)[0] in ("close", "catch"):
            if not waited(play, name) & names:
                return False
        elif not waited(play, name) <= names:
            return False
    return True


def knots(play):
    names = sorted(play.status)
    return [some for many in range(len(names) + 1) for some in combinations(names, many) if is_right_knot(play, set(some))]


def greatest(play):
    return tuple(sorted({name for some in knots(play) for name in some}))


def plays():
    """Plays behind many runs of many houses."""
    for number in range(HOUSES):
        house = made_house(number)
        run = made_run(house, number)
        for many in {0, len(run) // 2, len(run)}:
            yield played(house, run[:many])
    for house, every, _ in walked():
        yield from every[::max(1, len(every) // 8)]
        yield every[-1]


class AtStates(unittest.TestCase):
    def test_live(self):
        for play in plays():
            self.assertEqual(live(play.house, play.state()), tuple(sorted(alive(play))))

    def test_waits(self):
        seen = set()
        for play in plays():
            for name in play.status:
                self.assertIs(is_waiting(play.house, play.state(), name), stands(play, name))
                self.assertEqual(waits_for(play.house, play.state(), name), tuple(sorted(waited(play, name))))
                if waited(play, name):
                    seen.add(play.next(name)[0] if play.status[name] == "going" else "idle")
        self.assertEqual(seen, {"put", "get", "hear", "join", "close", "catch", "idle"})

    def test_could_stop(self):
        seen = 0
        for play in plays():
            for name in play.status:
                self.assertEqual(could_stop(play.house, play.state(), name), tuple(sorted(stoppers(play, name))))
                seen += len(stoppers(play, name))
        self.assertGreater(seen, 200)

    def test_row_of_waits(self):
        longest = 0
        for play in plays():
            for name in play.status:
                row = [name]
                while waited(play, row[-1]) and row[-1] not in row[:-1]:
                    row.append(min(waited(play, row[-1])))
                self.assertEqual(row_of_waits(play.house, play.state(), name), tuple(row))
                longest = max(longest, len(row))
        self.assertGreater(longest, 3)

    def test_in_rings(self):
        seen = 0
        for play in plays():
            expected = []
            for name in sorted(play.status):
                found = set(waited(play, name))
                for _ in play.status:
                    found |= {other for one in found for other in waited(play, one)}
                expected += [name] if name in found else []
            self.assertEqual(in_rings(play.house, play.state()), tuple(expected))
            seen += bool(expected)
        self.assertGreater(seen, 5)

    def test_knots(self):
        sizes = set()
        for play in plays():
            known = knots(play)
            self.assertEqual(greatest_knot(play.house, play.state()), greatest(play))
            self.assertIn(greatest(play), known)
            for many in range(4):
                for some in combinations(sorted(play.status), many):
                    self.assertIs(is_knot(play.house, play.state(), some), some in known)
            sizes.add(len(greatest(play)))
        self.assertLessEqual({0, 1, 2, 3}, sizes)

    def test_is_knot_on_things(self):
        many = 0
        for play in plays():
            known = knots(play)
            if 2 <= len(known) <= 6 and many < 40:
                many += 1
                judged(self, lambda thing: is_knot(play.house, play.state(), thing), known)
        self.assertGreater(many, 20)

    def test_stopped_by_an_out_of_a_host(self):
        house = built({"h": [("in",), ("start", "a"), ("hear", "s", ()), ("out",), ("close", "g")], "a in g": [("hear", "t", ())],
                       "c": [("cancel", "h")], "d": [("hear", "u", ()), ("set", "s")]}, {"g": "h"})
        free, held = after(house, ("h", "h")), after(house, ("h", "h", "c"))
        self.assertEqual((could_stop(house, free, "a"), could_stop(house, held, "a")), (("c", "h"), ("h",)))
        self.assertEqual((could_stop(house, free, "h"), could_stop(house, held, "h")), ((), ()))
        self.assertEqual(greatest_knot(house, held), ("a", "d", "h"))

    def test_one_of_the_group_is_enough(self):
        for word in ("close", "catch"):
            house = built({"h": [("start", "a"), ("start", "b"), (word, "g")], "a in g": [("hear", "s", ())],
                           "b in g": [("give",)]}, {"g": "h"})
            here = after(house, ("h", "h"))
            self.assertEqual(waits_for(house, here, "h"), ("a", "b"))
            self.assertEqual(could_stop(house, here, "a"), ("h",) if word == "close" else ())
            self.assertEqual(greatest_knot(house, here), ("a", "h"))
            self.assertTrue(is_knot(house, here, ("a", "h")))
            self.assertFalse(is_knot(house, here, ("h",)))
            self.assertIs(is_knot(house, here, ("a",)), word == "catch")


class Guarantees(unittest.TestCase):
    def test_knots_stand_at_all_later_states(self):
        many = 0
        for house, every, _ in walked():
            known = {tuple(play.turns): play for play in every}
            for play in every[::max(1, len(every) // 6)]:
                knot = greatest_knot(house, play.state())
                if knot:
                    many += 1
                    for run, later in known.items():
                        if run[:len(play.turns)] == tuple(play.turns):
                            self.assertTrue(is_knot(house, later.state(), knot))
                            self.assertFalse(set(run[len(play.turns):]) & set(knot))
                            self.assertFalse({later.status[name] for name in knot} - {"idle", "going"})
        self.assertGreater(many, 40)

    def test_at_an_end_the_knot_has_the_live_tasks(self):
        for house, _, wholes in walked():
            for play in wholes[:10]:
                self.assertEqual(greatest_knot(house, play.state()), tuple(sorted(alive(play))))
                for name in alive(play):
                    row = row_of_waits(house, play.state(), name)
                    self.assertTrue(row[-1] in row[:-1] or waits_for(house, play.state(), row[-1]) == ())

    def test_lost_from(self):
        seen = set()
        for number in range(HOUSES):
            house = made_house(number)
            run = made_run(house, number)
            lots = [greatest(played(house, run[:many])) for many in range(len(run) + 1)]
            for name in task_names(house):
                expected = next((many for many, lot in enumerate(lots) if name in lot), None)
                self.assertEqual(lost_from(house, run, name), expected)
                seen.add(expected)
        self.assertLessEqual({None, 0, 1, 2, 3}, seen)


class Fates(unittest.TestCase):
    def test_fates(self):
        seen = set()
        for house, _, wholes in walked():
            for name in task_names(house):
                known = {play.status[name] for play in wholes}
                self.assertEqual(fates(house, name), tuple(sorted(known)))
                self.assertIs(surely_over(house, name), not known & {"idle", "going"})
                for status in (*STATUSES, "", "gone"):
                    right = [tuple(play.turns) for play in wholes if play.status[name] == status]
                    run = run_to_fate(house, name, status)
                    self.assertTrue(run in right if right else run is None)
                    self.assertIs(is_run_to_fate(house, name, status, run), bool(right))
                seen |= known
                if is_same(house):
                    self.assertEqual(len(known), 1)
        self.assertEqual(seen, set(STATUSES))

    def test_is_run_to_fate(self):
        many = 0
        for house, every, wholes in walked():
            name = task_names(house)[-1]
            known = sorted({play.status[name] for play in wholes})
            if len(known) > 1 and len(wholes) < 40 and many < 25:
                many += 1
                for status in known:
                    right = [tuple(play.turns) for play in wholes if play.status[name] == status]
                    judged(self, lambda thing: is_run_to_fate(house, name, status, thing), right, turns(every)[:40])
        self.assertGreater(many, 10)
        house = built({"a": [("give",), ("give",)]})
        judged(self, lambda thing: is_run_to_fate(house, "a", "going", thing), [])
        judged(self, lambda thing: is_run_to_fate(house, "a", "ended", thing), [("a", "a")])

    def test_standing_run(self):
        seen = set()
        for house, _, wholes in walked():
            right = [tuple(play.turns) for play in wholes if "going" in play.status.values()]
            run = standing_run(house)
            self.assertTrue(run in right if right else run is None)
            seen.add(bool(right))
        self.assertEqual(seen, {True, False})

    def test_run_to_failed(self):
        seen = set()
        for house, every, wholes in walked():
            names = task_names(house)
            for some in [(), *combinations(names, 1), *combinations(names, 2), names]:
                right = [tuple(play.turns) for play in wholes if {play.status[name] for name in some} <= {"failed"}]
                run = run_to_failed(house, some)
                self.assertTrue(run in right if right else run is None)
                self.assertIs(is_run_to_failed(house, some, run), bool(right))
                seen.add((len(some), bool(right)))
                for other in turns(every)[-4:]:
                    self.assertIs(is_run_to_failed(house, some, other), other in right)
        self.assertLessEqual({(0, True), (1, True), (1, False), (2, True), (2, False)}, seen)

    def test_is_run_to_failed(self):
        house = built({"amy in den": [("fail", "x")], "ben in den": [("in",), ("fail", "y"), ("out",)],
                       "hal": [("start", "amy"), ("start", "ben"), ("catch", "den")]}, {"den": "hal"})
        runs = [tuple(play.turns) for play in [played(house, run) for run in
                (("hal", "hal", "ben", "amy", "ben", "hal"), ("hal", "hal", "ben", "ben", "hal"), ("hal", "hal", "amy", "hal"))]]
        judged(self, lambda thing: is_run_to_failed(house, ("amy", "ben"), thing),
               [("hal", "hal", "ben", "amy", "ben", "hal"), ("hal", "ben", "hal", "amy", "ben", "hal")][:1], runs[1:])
        self.assertTrue(is_run_to_failed(house, (), runs[1]))
        self.assertTrue(is_run_to_failed(house, ["ben"], runs[1]))


class Words(unittest.TestCase):
    def test_words_told(self):
        seen = set()
        for house, every, wholes in walked():
            for group, _ in house[1]:
                told = {tuple(play.turns): dict(play.events("closed")).get(group) for play in wholes}
                self.assertEqual(words_told(house, group), tuple(sorted(set(told.values()) - {None})))
                for words in ((), ("x",), ("y",), ("x", "y"), ("q",), ("y", "x"), ("x", "x"), ("no",)):
                    right = [run for run in told if told[run] == words]
                    run = run_with_words(house, group, words)
                    self.assertTrue(run in right if right else run is None)
                    self.assertIs(is_run_with_words(house, group, words, run), bool(right))
                    for other in turns(every)[-5:]:
                        self.assertIs(is_run_with_words(house, group, words, other), other in right)
                seen |= set(told.values())
        self.assertLessEqual({None, (), ("x",), ("x", "y")}, seen)

    def test_is_run_with_words(self):
        house = built({"amy in den": [("fail", "x")], "hal": [("start", "amy"), ("catch", "den"), ("give",)]}, {"den": "hal"})
        judged(self, lambda thing: is_run_with_words(house, "den", ("x",), thing), [("hal", "amy", "hal", "hal")])
        judged(self, lambda thing: is_run_with_words(house, "den", (), thing), [], [("hal", "amy", "hal", "hal")])
        self.assertTrue(is_run_with_words(house, "den", ["x"], ("hal", "amy", "hal", "hal")))


class Fences(unittest.TestCase):
    def test_fence(self):
        for house, every, wholes in walked():
            known = {tuple(play.turns): play.state() for play in every}
            told = fence(house)
            self.assertEqual(told, tuple(sorted(told)))
            self.assertIn((), told)
            self.assertEqual(len(told), len(set(known.values())))
            self.assertEqual({known[run] for run in told}, set(known.values()))
            self.assertTrue(is_fence(house, told))
            ends = {known[run] for run in told if run in turns(wholes)}
            self.assertEqual(ends, {play.state() for play in wholes})

    def test_one_run_too_few_or_wrong(self):
        for house, every, _ in walked():
            told = fence(house)
            if len(told) > 30:
                continue
            known = {tuple(play.turns): play.state() for play in every}
            for at in range(len(told)):
                self.assertFalse(is_fence(house, told[:at] + told[at + 1:]))
                elsewhere = [run for run in known if known[run] != known[told[at]] and run not in told][:1]
                if elsewhere:
                    self.assertFalse(is_fence(house, tuple(sorted([*told[:at], *told[at + 1:], *elsewhere]))))
            for wrong in (("zed",), (task_names(house)[0],) * 9, "ann", ("ann", 1), ["ann"], None, (None,)):
                rows = [*told, wrong]
                if isinstance(wrong, tuple) and None not in wrong and 1 not in wrong:
                    rows = sorted(rows)
                self.assertFalse(is_fence(house, tuple(rows)))
            self.assertFalse(is_fence(house, list(told)))
            if len(told) > 1:
                self.assertFalse(is_fence(house, told[::-1]))
                self.assertFalse(is_fence(house, told + told[-1:]))
            self.assertTrue(is_fence(house, tuple(sorted({tuple(play.turns) for play in every}))))

    def test_another_run_to_the_same_state(self):
        many = 0
        for house, every, _ in walked():
            told = list(fence(house))
            known = {tuple(play.turns): play.state() for play in every}
            if len(told) > 40:
                continue
            for run in known:
                if run not in told and many < 60:
                    many += 1
                    other = [one for one in told if known[one] != known[run]] + [run]
                    self.assertTrue(is_fence(house, tuple(sorted(other))))
                    self.assertTrue(is_fence(house, tuple(sorted(told + [run]))))
        self.assertEqual(many, 60)

    def test_is_fence_on_things(self):
        house = built({"a": [("set", "s")], "b": [("hear", "s", ())]})
        judged(self, lambda thing: is_fence(house, thing), [((), ("a",), ("a", "b"))])
        still = built({"a": [("hear", "s", ())]})
        judged(self, lambda thing: is_fence(still, thing), [((),)])


class Errors(Refusing, unittest.TestCase):
    house = built({"a": [("start", "b"), ("close", "g")], "b in g": [("give",)], "c": [("hear", "s", ())]}, {"g": "a"})

    def test_tasks(self):
        state = begin(self.house)
        for function in (is_waiting, waits_for, could_stop, row_of_waits):
            self.refused(NoTask, "z", function, self.house, state, "z")
        for function, *rest in ((fates,), (run_to_fate, "ended"), (is_run_to_fate, "ended", 1), (surely_over,)):
            self.refused(NoTask, "z", function, self.house, "z", *rest)
        for function, *rest in ((run_to_failed,), (is_run_to_failed, 1)):
            self.refused(NoTask, "y", function, self.house, ("a", "y", "z"), *rest)

    def test_groups(self):
        for function, *rest in ((words_told,), (run_with_words, ()), (is_run_with_words, (), 1)):
            self.refused(NoGroup, "k", function, self.house, "k", *rest)
            self.refused(NoGroup, "a", function, self.house, "a", *rest)

    def test_task_ahead_of_choices(self):
        self.refused(NoTask, "z", lost_from, self.house, ("y", "c"), "z")
        self.refused(NoTask, "y", lost_from, self.house, ("c", "y"), "a")
        self.refused(NotReady, "c", lost_from, self.house, ["c", "a"], "a")

    def test_lists(self):
        house, state = listed(self.house), listed(after(self.house, ("a",)))
        self.assertEqual(live(house, state), ("a", "b", "c"))
        self.assertEqual((waits_for(house, state, "a"), could_stop(house, state, "b"), greatest_knot(house, state)),
                         (("b",), ("a",), ("c",)))
        self.assertEqual(run_with_words(house, "g", []), run_with_words(house, "g", ()))
        self.assertTrue(is_knot(house, state, ("c",)))
        self.assertFalse(is_knot(house, state, ["c"]))
