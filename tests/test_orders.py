"""[10] Orders, against the list of all whole runs of small houses, walked by the test's own turns."""

import unittest
from fractions import Fraction

from giveways.clash import is_same
from giveways.errors import NoNumber, NoStep, NotReady, NotWhole, NoTask
from giveways.houses import after, is_run, is_whole, told
from giveways.orders import (
    all_runs, all_states, chance, changed_run, classes, ends_left, ends_told, fewest_changed, forks, how_many_ahead,
    how_many_runs, how_many_tell, how_many_with, is_changed_run, least_beginning, least_run, longest, most_ready, nth_run,
    place_of, runs_on, share, shortest, states_at, sure_turns, turns_of,
)
from giveways.scripts import all_marks
from tests.alike import distances, marks_of
from tests.made import Refusing, Row, built, judged, listed
from tests.walked import turns, walked


def least(runs):
    return min(runs, key=lambda run: (len(run), run), default=None)


def unlike(run, other):
    both = sum(one != two for one, two in zip(run, other))
    return both + abs(len(run) - len(other))


def strange_states(state):
    """Tuples shaped like a STATE that are no end."""
    clock, stands, lanes, signals = state
    return [(clock + 1, stands, lanes, signals), (clock, stands[:-1], lanes, signals),
            (clock, stands, lanes + (("zz", (), 0),), signals),
            (clock, (), (), ()), (clock, ((stands[0][0], "gone") + stands[0][2:],) + stands[1:], lanes, signals)]


class Runs(unittest.TestCase):
    def test_all(self):
        most = 0
        for house, _, wholes in walked():
            runs = sorted(turns(wholes))
            self.assertEqual(how_many_runs(house), len(runs))
            self.assertEqual(all_runs(house), runs)
            for number in {0, len(runs) // 3, len(runs) // 2, len(runs) - 1}:
                self.assertEqual(nth_run(house, number), runs[number])
                self.assertEqual(place_of(house, runs[number]), number)
            for number in (-1, len(runs), len(runs) + 7, -len(runs), 10 ** 40):
                with self.assertRaises(NoNumber) as caught:
                    nth_run(house, number)
                self.assertEqual(caught.exception.number, number)
            self.assertEqual((shortest(house), longest(house)), (min(map(len, runs)), max(map(len, runs))))
            most = max(most, len(runs))
        self.assertGreater(most, 100)

    def test_runs_on(self):
        for house, plays, wholes in walked():
            runs = turns(wholes)
            for run in turns(plays)[::max(1, len(plays) // 12)]:
                self.assertEqual(runs_on(house, run), sum(other[:len(run)] == run for other in runs))

    def test_very_many(self):
        house = built({name: [("give",)] * 3 for name in "abcd"})
        self.assertEqual(how_many_runs(house), 369600)
        self.assertEqual(nth_run(house, 0), ("a",) * 3 + ("b",) * 3 + ("c",) * 3 + ("d",) * 3)
        self.assertEqual(nth_run(house, 369599), ("d",) * 3 + ("c",) * 3 + ("b",) * 3 + ("a",) * 3)
        row = Row(1)
        for number in [row.below(30000) * 12 for _ in range(12)]:
            run = nth_run(house, number)
            self.assertTrue(is_whole(house, run))
            self.assertEqual(place_of(house, run), number)
            self.assertLess(run, nth_run(house, number + 1))
        with self.assertRaises(NoNumber):
            nth_run(house, 369600)
        self.assertEqual(runs_on(house, ("a", "a", "a")), 1680)
        self.assertEqual((len(all_states(house)), len(states_at(house, 6)), forks(house), most_ready(house)), (256, 44, 243, 4))
        self.assertEqual(how_many_with(house, ("b", 2)), 369600)
        self.assertEqual(how_many_ahead(house, ("a", 0), ("b", 0)) * 2, 369600)
        self.assertEqual(turns_of(house, ("b", 1)), (1, 10))
        self.assertEqual(chance(house, told(house, nth_run(house, 5))), (1, 1))


class States(unittest.TestCase):
    def test_all_states(self):
        for house, plays, wholes in walked():
            known = {play.state(): play for play in plays}
            self.assertEqual(all_states(house), sorted(known))
            for number in range(-1, longest(house) + 2):
                here = {play.state() for play in plays if len(play.turns) == number}
                self.assertEqual(states_at(house, number), sorted(here))
            self.assertEqual(most_ready(house), max(len(play.ready()) for play in plays))
            self.assertEqual(forks(house), sum(len(play.ready()) > 1 for play in known.values()))

    def test_all_runs_to_one_state_take_the_same_turns(self):
        for house, plays, _ in walked():
            known = {}
            for play in plays:
                taken = sorted(marks_of(tuple(play.turns)))
                self.assertEqual(known.setdefault(play.state(), taken), taken)

    def test_sure_turns(self):
        seen = set()
        for house, plays, wholes in walked():
            expected = []
            for number in range(min(len(play.turns) for play in wholes) + 1):
                if len({play.state() for play in plays if len(play.turns) == number}) == 1:
                    expected.append(number)
            self.assertEqual(sure_turns(house), tuple(expected))
            seen.add(len(expected))
        self.assertLessEqual({1, 2, 3, 4}, seen)

    def test_the_product_of_the_ways(self):
        for house, plays, wholes in walked():
            product, sure = 1, sure_turns(house)
            for first, last in zip(sure, (*sure[1:], None)):
                product *= len({tuple(play.turns[first:last]) for play in wholes})
            self.assertEqual(product, how_many_runs(house))


class Ends(unittest.TestCase):
    def test_ends_told(self):
        for house, plays, wholes in walked():
            tellers = {}
            for play in wholes:
                tellers.setdefault(play.state(), []).append(tuple(play.turns))
            self.assertEqual(ends_told(house), sorted(tellers))
            self.assertIs(is_same(house), len(tellers) == 1)
            shares, chances = Fraction(0), Fraction(0)
            for state, runs in list(tellers.items())[:4]:
                self.assertEqual(how_many_tell(house, state), len(runs))
                whole = Fraction(len(runs), len(wholes))
                self.assertEqual(share(house, state), (whole.numerator, whole.denominator))
            for state in tellers:
                shares += Fraction(*share(house, state))
                chances += Fraction(*chance(house, state))
            self.assertEqual((shares, chances), (1, 1))

    def test_chance(self):
        for house, plays, wholes in walked():
            likely = {(): Fraction(1)}
            told_by = {}
            for play in plays:
                for name in play.ready():
                    likely[(*play.turns, name)] = likely[tuple(play.turns)] / len(play.ready())
                if not play.ready():
                    told_by[play.state()] = told_by.get(play.state(), 0) + likely[tuple(play.turns)]
            for state, worth in list(told_by.items())[:4]:
                self.assertEqual(chance(house, state), (worth.numerator, worth.denominator))

    def test_no_end(self):
        for house, plays, wholes in walked()[:60]:
            known = {play.state() for play in wholes}
            run = tuple(wholes[0].turns)
            others = strange_states(wholes[0].state()) + [play.state() for play in plays if play.ready()][:3]
            for state in others:
                if state in known:
                    continue
                self.assertEqual((how_many_tell(house, state), share(house, state), chance(house, state)), (0, (0, 1), (0, 1)))
                self.assertIsNone(least_beginning(house, state))
                self.assertIsNone(fewest_changed(house, run, state))
                self.assertIsNone(changed_run(house, run, state))
                self.assertFalse(is_changed_run(house, run, state, run))
                if state not in {play.state() for play in plays}:
                    self.assertIsNone(least_run(house, state))

    def test_ends_left(self):
        for house, plays, wholes in walked():
            for run in turns(plays)[::max(1, len(plays) // 10)]:
                expected = {play.state() for play in wholes if tuple(play.turns[:len(run)]) == run}
                self.assertEqual(ends_left(house, run), sorted(expected))


class Classes(unittest.TestCase):
    def test_classes(self):
        seen = set()
        for house, plays, wholes in walked():
            known = {tuple(play.turns): play.state() for play in plays}
            lots = {}
            for run in turns(wholes):
                if run not in lots:
                    alike = distances(house, run, known)
                    lots.update({other: (min(alike), len(alike)) for other in alike})
            expected = sorted(set(lots.values()))
            self.assertEqual(classes(house), expected)
            self.assertEqual(sum(many for _, many in expected), how_many_runs(house))
            self.assertIs(len(expected) == 1, is_same(house))
            seen.add(len(expected))
        self.assertGreater(max(seen), 8)


class Least(unittest.TestCase):
    def test_least_run(self):
        for house, plays, _ in walked():
            known = {}
            for play in plays:
                known.setdefault(play.state(), []).append(tuple(play.turns))
            for state in list(known)[::max(1, len(known) // 10)]:
                self.assertEqual(least_run(house, state), min(known[state]))

    def test_least_beginning(self):
        seen = set()
        for house, plays, wholes in walked():
            left = {}
            for play in wholes:
                for many in range(len(play.turns) + 1):
                    left.setdefault(tuple(play.turns[:many]), set()).add(play.state())
            for state in sorted({play.state() for play in wholes})[:4]:
                best = least([run for run, ends in left.items() if ends == {state}])
                self.assertEqual(least_beginning(house, state), best)
                seen.add(len(best))
        self.assertLessEqual({0, 1, 2, 3}, seen)

    def test_changed_runs(self):
        seen = set()
        for house, _, wholes in walked():
            ends = sorted({play.state() for play in wholes})
            for run in (turns(wholes)[0], turns(wholes)[-1]):
                for state in (ends[0], ends[-1]):
                    runs = [tuple(play.turns) for play in wholes if play.state() == state]
                    fewest = min(unlike(run, other) for other in runs)
                    best = [other for other in runs if unlike(run, other) == fewest]
                    self.assertEqual(fewest_changed(house, run, state), fewest)
                    self.assertEqual(changed_run(house, run, state), min(best))
                    self.assertTrue(is_changed_run(house, run, state, min(best)))
                    for other in turns(wholes)[::max(1, len(wholes) // 8)]:
                        self.assertIs(is_changed_run(house, run, state, other), other in best)
                    seen.add(fewest)
        self.assertLessEqual({0, 2, 3, 4}, seen)

    def test_is_changed_run(self):
        many = 0
        for house, plays, wholes in walked():
            if 2 <= len(wholes) <= 12 and not is_same(house) and many < 25:
                many += 1
                run, state = tuple(wholes[0].turns), wholes[-1].state()
                runs = [tuple(play.turns) for play in wholes if play.state() == state]
                fewest = min(unlike(run, other) for other in runs)
                right = [other for other in runs if unlike(run, other) == fewest]
                judged(self, lambda thing: is_changed_run(house, run, state, thing), right, turns(plays)[:30])
        self.assertGreater(many, 15)

    def test_longer_and_shorter(self):
        house = built({"ann": [("start", "cy")], "bob": [("cancel", "cy")], "cy": [("give",)]})
        ended, stopped = told(house, ("bob", "ann", "cy")), told(house, ("ann", "bob"))
        self.assertEqual(fewest_changed(house, ("bob", "ann", "cy"), stopped), 3)
        self.assertEqual(changed_run(house, ("bob", "ann", "cy"), stopped), ("ann", "bob"))
        self.assertEqual(changed_run(house, ("bob", "ann", "cy"), ended), ("bob", "ann", "cy"))
        self.assertEqual(fewest_changed(house, ["ann", "bob"], ended), 2)
        self.assertTrue(is_changed_run(house, ["ann", "bob"], listed(ended), ("ann", "cy", "bob")))


class Marks(unittest.TestCase):
    def test_with_and_ahead(self):
        seen = set()
        for house, _, wholes in walked():
            taken = [marks_of(run) for run in turns(wholes)]
            every = all_marks(house)
            for mark in every[::2]:
                rows = [row.index(mark) for row in taken if mark in row]
                self.assertEqual(how_many_with(house, mark), len(rows))
                self.assertEqual(turns_of(house, mark), (min(rows), max(rows)) if rows else None)
                for other in every[::3]:
                    many = sum(mark in row and other in row and row.index(mark) < row.index(other) for row in taken)
                    self.assertEqual(how_many_ahead(house, mark, other), many)
                self.assertEqual(how_many_ahead(house, mark, mark), 0)
                seen.add((bool(rows), len(rows) == len(wholes)))
        self.assertEqual(seen, {(True, True), (True, False), (False, False)})


class Errors(Refusing, unittest.TestCase):
    house = built({"a": [("put", "q"), ("give",)], "b": [("get", "q", ())], "c": [("give",)]})

    def test_choices(self):
        state = after(self.house, ())
        rows = ((place_of,), (runs_on,), (ends_left,), (fewest_changed, state), (changed_run, state), (is_changed_run, state, 1))
        for function, *rest in rows:
            self.refused(NoTask, "z", function, self.house, ("b", "z", "y"), *rest)
            self.refused(NotReady, "b", function, self.house, ["c", "b", "a", "a", "a"], *rest)
            if function not in (runs_on, ends_left):
                self.refused(NotWhole, None, function, self.house, ("a", "b"), *rest)

    def test_marks(self):
        for function in (how_many_with, turns_of):
            self.refused(NoTask, "z", function, self.house, ("z", 99))
            self.refused(NoStep, 2, function, self.house, ["a", 2])
            self.refused(NoStep, -1, function, self.house, ("a", -1))
        self.refused(NoTask, "z", how_many_ahead, self.house, ("z", 99), ("y", 99))
        self.refused(NoTask, "y", how_many_ahead, self.house, ("a", 99), ("y", 99))
        self.refused(NoStep, 99, how_many_ahead, self.house, ("a", 99), ("b", 98))
        self.refused(NoStep, 98, how_many_ahead, self.house, ("a", 1), ("b", 98))
        self.refused(NoStep, -3, how_many_ahead, self.house, ("a", -3), ("a", -3))

    def test_new_lists(self):
        for function, args in ((all_runs, ()), (all_states, ()), (states_at, (1,)), (ends_told, ()), (classes, ()),
                               (ends_left, (("a",),))):
            first = function(self.house, *args)
            held = list(first)
            first.append("more")
            self.assertEqual(function(self.house, *args), held)

    def test_lists(self):
        house = listed(self.house)
        state = listed(ends_told(house)[0])
        self.assertEqual((how_many_tell(house, state), share(house, state), chance(house, state)), (8, (1, 1), (1, 1)))
        self.assertEqual(least_run(house, state), ("a", "a", "b", "c"))
        self.assertEqual(how_many_ahead(house, ["a", 0], ["c", 0]), 6)
        self.assertTrue(is_run(house, nth_run(house, 3)))
