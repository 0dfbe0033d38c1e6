"""[8] What turns need, against all RUNS that come from a RUN by swaps, taken one by one by the test's own turns."""

import unittest

from giveways.errors import NoNumber, NoStep, NotReady, NoTask, Unfit
from giveways.houses import after, is_run, marks, states
from giveways.lanes import got_by, puts_of, set_by
from giveways.needs import (
    all_parts, are_alike, brought_on, chain, fewest_swaps, how_many_alike, how_many_parts, is_chain, is_part, is_run_against,
    is_swap_row, layers, least_alike, longest_chain, need_pairs, needed_by, needs, part_first, part_of, put_off, rests_on,
    run_against, state_behind, surely_ahead, swap_row, swapped, swaps,
)
from giveways.scripts import all_marks, queue_names, starter_of, step_of, task_names
from tests.alike import distances, marks_of, needs_of, parts_of, swapped_at, swaps_of, walked_runs
from tests.made import Refusing, Row, built, judged, listed, made_house, made_run
from tests.walked import walked

HOUSES = 60
LARGER = []


def larger_runs():
    """Runs of houses that need not be small, with all alike ones, as long as these are not too many."""
    if not LARGER:
        for number in range(HOUSES):
            house = made_house(number)
            run = made_run(house, number)
            known = {}
            far = distances(house, run, known, 60)
            if far:
                LARGER.append((house, run, known, far))
    return LARGER


def runs():
    return walked_runs() + larger_runs()


def rests_of(told, last):
    return tuple(at for at in told[last] if not any(at in told[other] for other in told[last]))


def chains_of(told):
    """All CHAINS."""
    rows = [(place,) for place in range(len(told))]
    for row in rows:
        rows += [row + (last,) for last in range(len(told)) if row[-1] in rests_of(told, last)]
    return rows


class Needs(unittest.TestCase):
    def test_swaps(self):
        many = 0
        for house, run, known, _ in runs():
            self.assertEqual(swaps(house, run), swaps_of(house, run, known))
            many += len(swaps(house, run))
            for at in range(len(run)):
                if at in swaps_of(house, run, known):
                    self.assertEqual(swapped(house, run, at), swapped_at(run, at))
                else:
                    with self.assertRaises(Unfit):
                        swapped(house, run, at)
        self.assertGreater(many, 200)

    def test_needs(self):
        for house, run, _, far in runs():
            told = needs_of(run, far)
            for place in range(len(run)):
                self.assertEqual(needs(house, run, place), told[place], (house, run, place))
                self.assertEqual(needed_by(house, run, place), tuple(at for at in range(len(run)) if place in told[at]))
                self.assertEqual(rests_on(house, run, place), rests_of(told, place))
            pairs = tuple(sorted((place, last) for last in range(len(run)) for place in told[last]))
            self.assertEqual(need_pairs(house, run), pairs)

    def test_chains(self):
        longest = 0
        for house, run, _, far in runs():
            told = needs_of(run, far)
            known = chains_of(told) if len(run) <= 12 else None
            if known is None or len(known) > 150:
                continue
            for place in range(len(run)):
                for last in range(place % 3, len(run), 3):
                    some = [row for row in known if (row[0], row[-1]) == (place, last)]
                    row = chain(house, run, place, last)
                    self.assertTrue(row in some if some else row is None)
                    if row is not None:
                        self.assertTrue(is_chain(house, run, row))
            best = min(known, key=lambda row: (-len(row), row), default=())
            self.assertEqual(longest_chain(house, run), best)
            self.assertEqual(len(layers(house, run)), len(best))
            longest = max(longest, len(best))
        self.assertGreater(longest, 6)

    def test_is_chain(self):
        many = 0
        for house, run, _, far in walked_runs(1):
            known = chains_of(needs_of(run, far))
            if 3 < len(known) < 60:
                many += 1
                judged(self, lambda thing: is_chain(house, run, thing), known)
        self.assertGreater(many, 20)

    def test_layers(self):
        for house, run, _, far in runs():
            told = needs_of(run, far)
            left, lots = list(range(len(run))), []
            while left:
                lots.append(tuple(at for at in left if not set(told[at]) & set(left)))
                left = [at for at in left if at not in lots[-1]]
            self.assertEqual(layers(house, run), tuple(lots))


class Parts(unittest.TestCase):
    def test_all_parts(self):
        for house, run, _, far in runs():
            known = parts_of(needs_of(run, far))
            self.assertEqual(how_many_parts(house, run), len(known))
            self.assertEqual(all_parts(house, run), sorted(known))

    def test_is_part(self):
        many = 0
        for house, run, _, far in walked_runs(1):
            known = parts_of(needs_of(run, far))
            if len(known) < 30 and many < 40:
                many += 1
                judged(self, lambda thing: is_part(house, run, thing), known, [(place,) for place in range(len(run))])
        self.assertGreater(many, 20)

    def test_part_of(self):
        row = Row(3)
        for house, run, _, far in runs():
            told = needs_of(run, far)
            known = parts_of(told)
            for _ in range(3):
                places = tuple(sorted({row.below(len(run)) for _ in range(row.below(3))})) if run else ()
                best = min((part for part in known if set(places) <= set(part)), key=len)
                self.assertEqual(part_of(house, run, places), best)
                rest = [at for at in range(len(run)) if at not in best]
                first = tuple(run[at] for at in [*best, *rest])
                self.assertEqual(part_first(house, run, places), first)
                self.assertIn(first, far)
                self.assertEqual(state_behind(house, run, places), after(house, tuple(run[at] for at in best)))

    def test_put_off_and_brought_on(self):
        for house, run, _, far in runs():
            told = needs_of(run, far)
            for place in range(len(run)):
                later = [at for at in range(len(run)) if place in told[at]]
                early = [at for at in range(len(run)) if at != place and at not in later]
                expected = tuple(run[at] for at in [*early, place, *later])
                self.assertEqual(put_off(house, run, place), expected)
                self.assertIn(expected, far)
                others = [at for at in range(len(run)) if at != place and at not in told[place]]
                expected = tuple(run[at] for at in [*told[place], place, *others])
                self.assertEqual(brought_on(house, run, place), expected)
                self.assertIn(expected, far)


class Alike(unittest.TestCase):
    def test_least_and_many(self):
        for house, run, _, far in runs():
            self.assertEqual(least_alike(house, run), min(far))
            self.assertEqual(how_many_alike(house, run), len(far))

    def test_are_alike(self):
        for house, run, known, far in walked_runs(2):
            others = [other for other in known if known[other]][::7][:15] + list(far)[:8]
            for other in others:
                expected = other in far
                self.assertIs(are_alike(house, run, other), expected)
                self.assertEqual(fewest_swaps(house, run, other), far.get(other))
                self.assertEqual(swap_row(house, run, other) is None, not expected)

    def test_swap_rows(self):
        most = 0
        for house, run, known, far in runs():
            for other in sorted(far, key=far.get)[-3:]:
                row = swap_row(house, run, other)
                most = max(most, len(row))
                self.assertEqual((row[0], row[-1], len(row)), (run, other, far[other] + 1))
                for one, following in zip(row, row[1:]):
                    self.assertIn(following, [swapped_at(one, at) for at in swaps_of(house, one, known)])
                self.assertTrue(is_swap_row(house, run, other, row))
        self.assertGreater(most, 8)

    def test_is_swap_row(self):
        many = 0
        for house, run, known, far in walked_runs(1):
            other = max(far, key=far.get)
            if not 1 <= far[other] <= 5 or many >= 22:
                continue
            rows = [(run,)]
            for _ in range(far[other]):
                rows = [row + (swapped_at(row[-1], at),) for row in rows for at in swaps_of(house, row[-1], known)]
            right = [row for row in rows if row[-1] == other]
            wrong = [row for row in rows if row[-1] != other][:20] + [row + row[-2:-1] + row[-1:] for row in right]
            many += 1
            judged(self, lambda thing: is_swap_row(house, run, other, thing), right, wrong)
        self.assertGreater(many, 20)
        house = built({"a": [("set", "s")], "b": [("set", "s")], "c": [("give",)]})
        judged(self, lambda thing: is_swap_row(house, ("a", "b", "c"), ("b", "a", "c"), thing), [],
               [(("a", "b", "c"), ("b", "a", "c"))])
        judged(self, lambda thing: is_swap_row(house, ("a", "b"), ("a", "b"), thing), [(("a", "b"),)])

    def test_not_just_as_many_turns(self):
        house = built({"a": [("give",), ("give",)], "b": [("give",)]})
        self.assertFalse(are_alike(house, ("a", "b"), ("a", "b", "a")))
        self.assertFalse(are_alike(house, ("a", "b"), ("a", "a")))
        self.assertTrue(are_alike(house, (), ()))
        self.assertEqual((fewest_swaps(house, (), ()), swap_row(house, (), ())), (0, ((),)))


class Guarantees(unittest.TestCase):
    def test_all_orders_of_the_needs_are_alike(self):
        for house, run, known, far in walked_runs(1):
            told = needs_of(run, far)
            orders = [()]
            for _ in run:
                orders = [order + (at,) for order in orders for at in range(len(run))
                          if at not in order and set(told[at]) <= set(order)]
            self.assertEqual({tuple(run[at] for at in order) for order in orders}, set(far))
            self.assertEqual({known[other] for other in far}, {known[run]})

    def test_what_surely_is_needed(self):
        for house, run, _, _ in larger_runs():
            taken = marks(house, run)
            rows = states(house, run)
            for last, mark in enumerate(taken):
                found = set(needs(house, run, last))
                ahead = [at for at in range(last) if run[at] == run[last]]
                ahead += [at for at in range(last) if taken[at] == starter_of(house, mark[0])]
                ahead += [at for at in range(last) if rows[at + 1][0] > rows[at][0] for at in range(at + 1)]
                word, *rest = step_of(house, *mark)
                if word == "get":
                    ahead += [at for at in range(last) if taken[at] == got_by(house, run, mark)]
                if word == "put":
                    ahead += [at for at in range(last) if taken[at] in puts_of(house, run[:last], rest[0])]
                if word == "hear" and set_by(house, run[:last], rest[0]):
                    ahead += [at for at in range(last) if taken[at] == set_by(house, run, rest[0])]
                self.assertLessEqual(set(ahead), found, (house, run, last))

    def test_no_turns(self):
        house = built({"a": [("give",)]})
        self.assertEqual((swaps(house, ()), need_pairs(house, ()), longest_chain(house, ()), layers(house, ())), ((), (), (), ()))
        self.assertEqual((part_of(house, (), ()), part_first(house, (), ()), how_many_parts(house, ()), all_parts(house, ())),
                         ((), (), 1, [()]))
        self.assertEqual((least_alike(house, ()), how_many_alike(house, ()), state_behind(house, (), ())),
                         ((), 1, after(house, ())))
        self.assertTrue(is_part(house, (), ()))
        self.assertFalse(is_chain(house, (), ()))


class SurelyAhead(unittest.TestCase):
    def test_against_all_runs(self):
        seen = set()
        for house, plays, _ in walked():
            taken = [marks_of(tuple(play.turns)) for play in plays]
            every = all_marks(house)
            for goal in every:
                ending = [row for row in taken if row and row[-1] == goal]
                for mark in every[::2]:
                    against = [tuple(name for name, _ in row) for row in ending if mark not in row[:-1]]
                    self.assertIs(surely_ahead(house, mark, goal), not against)
                    run = run_against(house, mark, goal)
                    self.assertTrue(run in against if against else run is None)
                    self.assertIs(is_run_against(house, mark, goal, run), bool(against))
                    seen.add((bool(ending), bool(against)))
        self.assertEqual(seen, {(False, False), (True, False), (True, True)})

    def test_is_run_against(self):
        many = 0
        for house, plays, _ in walked():
            every = all_marks(house)
            if len(plays) > 60 or len(every) < 2:
                continue
            for mark, goal in ((every[0], every[-1]), (every[-1], every[0]), (every[0], every[0])):
                right = [run for run in (tuple(play.turns) for play in plays)
                         if marks_of(run)[-1:] == [goal] and mark not in marks_of(run)[:-1]]
                others = [run for run in (tuple(play.turns) for play in plays) if run not in right]
                judged(self, lambda thing: is_run_against(house, mark, goal, thing), right, others)
                many += 1
        self.assertGreater(many, 20)

    def test_same_for_all_orders(self):
        many = 0
        for house, _, wholes in walked():
            if len({play.state() for play in wholes}) > 1:
                continue
            many += 1
            run = tuple(wholes[-1].turns)
            taken = marks_of(run)
            for last, goal in enumerate(taken):
                for place, mark in enumerate(taken):
                    self.assertIs(surely_ahead(house, mark, goal), place in needs(house, run, last))
        self.assertGreater(many, 20)


class Errors(Refusing, unittest.TestCase):
    house = built({"a": [("put", "q"), ("give",)], "b": [("get", "q", ())], "c": [("give",)]})

    def test_choices(self):
        rows = ((swaps,), (swapped, 9), (needs, 9), (needed_by, 9), (rests_on, 9), (need_pairs,), (chain, 9, 9), (is_chain, 0),
                (longest_chain,), (layers,), (is_part, 0), (part_of, (9,)), (part_first, (9,)), (state_behind, (9,)),
                (how_many_parts,), (all_parts,), (put_off, 9), (brought_on, 9), (least_alike,), (how_many_alike,))
        for function, *rest in rows:
            self.refused(NoTask, "z", function, self.house, ("b", "z", "y"), *rest)
            self.refused(NotReady, "b", function, self.house, ["c", "b", "a", "a", "a"], *rest)

    def test_places(self):
        run = ("a", "b", "a")
        for number in (3, -1, 10 ** 30):
            for function in (swapped, needs, needed_by, rests_on, put_off, brought_on):
                self.refused(NoNumber, number, function, self.house, run, number)
            self.refused(NoNumber, number, chain, self.house, run, number, -5)
            self.refused(NoNumber, number, chain, self.house, run, 2, number)
            for function in (part_of, part_first, state_behind):
                self.refused(NoNumber, number, function, self.house, run, (number,))
        for function in (part_of, part_first, state_behind):
            self.refused(NoNumber, -2, function, self.house, run, (-2, 0, 7))
            self.refused(NoNumber, 7, function, self.house, run, (0, 7, 8))
        self.refused(Unfit, None, swapped, self.house, run, 2)
        self.refused(Unfit, None, swapped, self.house, run, 0)
        self.assertEqual(swapped(self.house, run, 1), ("a", "a", "b"))
        self.refused(NoNumber, 0, swapped, self.house, (), 0)

    def test_two_runs(self):
        rows = ((are_alike,), (fewest_swaps,), (swap_row,), (is_swap_row, 0))
        for function, *rest in rows:
            self.refused(NoTask, "z", function, self.house, ("b", "z"), ("y",), *rest)
            self.refused(NoTask, "y", function, self.house, ("b",), ("c", "y"), *rest)
            self.refused(NotReady, "b", function, self.house, ("b",), ("c", "c"), *rest)
            self.refused(NotReady, "c", function, self.house, ("a",), ["c", "c"], *rest)
            self.refused(NotReady, "c", function, self.house, ("a", "b"), ["c", "c"], *rest)

    def test_marks(self):
        for function, *rest in ((surely_ahead,), (run_against,), (is_run_against, None)):
            self.refused(NoTask, "z", function, self.house, ("z", 0), ("y", 0), *rest)
            self.refused(NoTask, "y", function, self.house, ("a", 9), ("y", 0), *rest)
            self.refused(NoStep, 2, function, self.house, ("a", 2), ("b", 7), *rest)
            self.refused(NoStep, -1, function, self.house, ("a", -1), ("b", 0), *rest)
            self.refused(NoStep, 1, function, self.house, ["a", 1], ["b", 1], *rest)

    def test_lists(self):
        house, run = listed(self.house), ["c", "a", "b", "a"]
        self.assertEqual(swapped(house, run, 0), ("a", "c", "b", "a"))
        self.assertEqual(part_first(house, run, [2]), ("a", "b", "c", "a"))
        self.assertEqual(swap_row(house, run, ["a", "c", "b", "a"]), (("c", "a", "b", "a"), ("a", "c", "b", "a")))
        self.assertTrue(is_swap_row(house, run, ["a", "c", "b", "a"], (("c", "a", "b", "a"), ("a", "c", "b", "a"))))
        self.assertEqual(run_against(house, ["c", 0], ["b", 0]), ("a", "b"))
        self.assertTrue(is_run_against(house, ["c", 0], ["b", 0], ("a", "b")))
        self.assertTrue(is_run(house, least_alike(house, run)))
        self.assertEqual(queue_names(house), ("q",))
        self.assertEqual(task_names(house), ("a", "b", "c"))

    def test_all_parts_tells_a_new_list(self):
        told = all_parts(self.house, ("a", "b"))
        told.clear()
        self.assertEqual(all_parts(self.house, ("a", "b")), [(), (0,), (0, 1)])
