"""[12] Signals put in between two STEPS: with_orders, state_without_orders, mends and fewest_orders."""

import unittest
from itertools import combinations, count, product

from giveways.clash import clashing_steps, is_same
from giveways.errors import NoStep, NoTask, Unfit
from giveways.houses import after, begin, states
from giveways.scripts import all_marks, is_house, signal_names, task_names
from giveways.sides import fewest_orders, mends, state_without_orders, with_orders
from tests.made import Refusing, Row, built, listed, made_house, made_run, small_house
from tests.plain import all_plays, script

LETTERS = "abcdefghijklmnopqrstuvwxyz"


def free_names(house):
    """The names a, b, .. z, aa, ab, .. that no signal has."""
    for many in count(1):
        for signs in product(LETTERS, repeat=many):
            if "".join(signs) not in signal_names(house):
                yield "".join(signs)


def woven(house, pairs):
    """For each task its STEPS, those put in too, each with its own number or None."""
    signals = [name for name, _ in zip(free_names(house), pairs)]
    rows = {}
    for task, _, steps in house[0]:
        rows[task] = []
        for at in range(len(steps) + 1):
            rows[task] += [(("set", name), None) for (mark, _), name in zip(pairs, signals) if mark == (task, at - 1)]
            rows[task] += [(("hear", name, ()), None) for (_, far), name in zip(pairs, signals) if far == (task, at)]
            rows[task] += [(step, at) for step in steps[at:at + 1]]
    return rows, signals


def own_state(house, pairs, state):
    """The STATE without what was put in, by another reading: each number is looked up in the STEPS as they stand."""
    rows, signals = woven(house, pairs)

    def less(task, number):
        return len([at for _, at in rows[task][:number] if at is not None])

    def mark(worth):
        return (worth[0], less(*worth)) if worth else worth
    stands = []
    for task, status, number, by, held, words, diary in state[1]:
        noting = [at for step, at in rows[task][:number] if step[0] in ("put", "get", "hear", "join", "close", "catch")]
        kept = [entry for entry, at in zip(diary, noting + [0]) if at is not None]
        entries = [("late", less(task, entry[1])) if entry[0] == "late" else
                   (entry[0], mark(entry[1])) if entry[0] in ("got", "heard", "stopped") else entry for entry in kept]
        stands.append((task, status, less(task, number), mark(by), mark(held), words, tuple(entries)))
    lanes = tuple((queue, tuple(map(mark, lying)), puts) for queue, lying, puts in state[2])
    return (state[0], tuple(stands), lanes, tuple((name, mark(by)) for name, by in state[3] if name not in signals))


def made_pairs(house, start):
    """At most six pairs of MARKS of unlike tasks, several at one place among them."""
    row, marks = Row(start), all_marks(house)
    pairs = []
    for _ in range(1 + row.below(6)):
        mark = row.one_of([pair[0] for pair in pairs] + list(marks))
        fars = [far for far in marks if far[0] != mark[0]]
        if fars:
            pairs.append((mark, row.one_of([pair[1] for pair in pairs if pair[1] in fars] + fars)))
    return tuple(pairs)


def ends_of(house):
    plays = all_plays(house, 6000)
    return plays and {play.state() for play in plays if not play.ready()}


def does_mend(house, pairs):
    """Whether it mends, by walking all whole runs of both; None if there are too many."""
    ends, others = ends_of(with_orders(house, pairs)), ends_of(house)
    if not ends or not others:
        return None
    return len(ends) == 1 and own_state(house, pairs, ends.pop()) in others


class PutIn(unittest.TestCase):
    def cases(self):
        for number in range(200):
            house = made_house(number)
            pairs = made_pairs(house, number) if len(task_names(house)) > 1 and all_marks(house) else ()
            if pairs:
                yield house, pairs, number

    def test_where_they_stand(self):
        several = 0
        for house, pairs, _ in self.cases():
            other = with_orders(house, pairs)
            self.assertTrue(is_house(other))
            self.assertEqual(with_orders(listed(house), listed(pairs)), other)
            rows, signals = woven(house, pairs)
            self.assertEqual(other[1:], house[1:])
            self.assertEqual([(task, steps) for task, _, steps in other[0]],
                             [(task, tuple(step for step, _ in rows[task])) for task in rows])
            self.assertEqual(set(signal_names(other)), set(signal_names(house)) | set(signals))
            several += len({mark for mark, _ in pairs}) < len(pairs)
        self.assertGreater(several, 40)

    def test_states_along_runs(self):
        seen = set()
        for house, pairs, number in self.cases():
            for state in states(with_orders(house, pairs), made_run(with_orders(house, pairs), number)):
                told = state_without_orders(house, pairs, state)
                self.assertEqual(told, own_state(house, pairs, state))
                seen |= {entry[0] for row in told[1] for entry in row[6]} | {"held" for row in told[1] if row[4]}
        self.assertLessEqual({"put", "got", "heard", "late", "joined", "closed", "stopped", "held"}, seen)

    def test_like_the_turns_without(self):
        """Where nobody is stopped and no moment stands: the STATE behind the turns of the HOUSE's own STEPS."""
        many = 0
        words = ("until", "cancel", "fail")
        for house, pairs, number in self.cases():
            if any(step[0] in words or len(step) > 2 and step[2] != () for row in house[0] for step in row[2]):
                continue
            other, rows = with_orders(house, pairs), woven(house, pairs)[0]
            run, turns = made_run(other, number), []
            own = {task: [at is not None for _, at in rows[task]] for task in rows}
            for state, task in list(zip(states(other, run), (*run, None))):
                if not any(rows[row[0]][row[2]:row[2] + 1] and rows[row[0]][row[2]][0][0] == "set" and
                           rows[row[0]][row[2]][1] is None for row in state[1]):
                    self.assertEqual(state_without_orders(house, pairs, state), after(house, turns))
                    many += 1
                if task and own[task].pop(0):
                    turns.append(task)
        self.assertGreater(many, 30)

    def test_several_at_one_place(self):
        house = built({"ann": [("give",), ("give",)], "bob": [("give",)], "cy": [("give",)]})
        pairs = ((("bob", 0), ("ann", 1)), (("ann", 0), ("bob", 0)), (("cy", 0), ("ann", 1)), (("ann", 0), ("cy", 0)))
        other = with_orders(house, pairs)
        self.assertEqual(script(other, "ann"), (("give",), ("set", "b"), ("set", "d"), ("hear", "a", ()), ("hear", "c", ()), ("give",)))
        self.assertEqual(script(other, "bob"), (("hear", "b", ()), ("give",), ("set", "a")))
        self.assertEqual(with_orders(house, pairs[::-1])[0][0][2][1:5],
                         (("set", "a"), ("set", "c"), ("hear", "b", ()), ("hear", "d", ())))
        twice = with_orders(house, (pairs[1], pairs[1]))
        self.assertEqual(script(twice, "bob"), (("hear", "a", ()), ("hear", "b", ()), ("give",)))
        self.assertEqual(with_orders(house, ()), house)

    def test_names_that_are_taken(self):
        house = built({"x": [("set", "a"), ("hear", "c", ())], "y": [("set", "b"), ("set", "e")]})
        pairs = tuple((("x", 0), ("y", at % 2)) for at in range(4))
        self.assertEqual(signal_names(with_orders(house, pairs)), ("a", "b", "c", "d", "e", "f", "g", "h"))
        full = built({"x": [("set", name) for name in LETTERS], "y": [("hear", "ab", ()), ("set", "q")]})
        self.assertEqual(set(signal_names(with_orders(full, pairs))) - set(signal_names(full)), {"aa", "ac", "ad", "ae"})
        rest = built({"x": [("set", name) for name in LETTERS[:25]], "y": [("give",), ("give",)]})
        self.assertEqual(set(signal_names(with_orders(rest, pairs))) - set(signal_names(rest)), {"z", "aa", "ab", "ac"})


class Mends(unittest.TestCase):
    def test_against_all_whole_runs(self):
        seen, known = {True: 0, False: 0}, 0
        for number in range(150):
            house = small_house(number)
            for start in range(2):
                if not all_marks(house) or sum(len(row[2]) for row in house[0]) > 8:
                    continue
                pairs = made_pairs(house, number + 1000 * start)[:2 + start]
                expected = does_mend(house, pairs)
                if expected is not None:
                    self.assertIs(mends(house, pairs), expected)
                    seen[expected] += 1
            self.assertIs(mends(house, ()), is_same(house))
            known += is_same(house)
        self.assertGreater(min(seen.values()), 30)
        self.assertGreater(known, 20)

    def brute(self, house):
        """The least of the fewest pairs that mend, each set of at most three looked at."""
        ways = [way for pair in clashing_steps(house) for way in (pair, pair[::-1])]
        for many in range(4):
            rows = [row for row in combinations(sorted(ways), many) if not any(way[::-1] in row for way in row)]
            found = [row for row in rows if mends(house, row)]
            if found:
                return min(found)
        return None

    def test_fewest_orders(self):
        seen = set()
        for number in range(400):
            house = small_house(number)
            if sum(len(row[2]) for row in house[0]) <= 8 and len(clashing_steps(house)) <= 4:
                told = fewest_orders(house)
                self.assertEqual(told, self.brute(house))
                seen.add(told if told is None else len(told))
        self.assertLessEqual({0, 1, 2}, seen)

    def test_two_are_wanted(self):
        house = built({"a": [("put", "q"), ("put", "r")], "b": [("put", "q")], "c": [("put", "r")]})
        self.assertEqual(fewest_orders(house), ((("a", 0), ("b", 0)), (("a", 1), ("c", 0))))
        self.assertEqual(fewest_orders(listed(house)), self.brute(house))
        three = built({"a": [("put", "q"), ("put", "r"), ("put", "s")], "b": [("put", "q")], "c": [("put", "r")], "d": [("put", "s")]})
        self.assertEqual(fewest_orders(three), ((("a", 0), ("b", 0)), (("a", 1), ("c", 0)), (("a", 2), ("d", 0))))
        four = built({"a": [("put", "q"), ("put", "r")], "b": [("put", "q"), ("put", "r")]})
        self.assertEqual(fewest_orders(four), self.brute(four))
        asked = built({"a": [("put", "q")], "b": [("put", "q")], "c": [("cancel", "a"), ("cancel", "b")]})
        self.assertTrue(mends(asked, ((("a", 0), ("b", 0)), (("b", 0), ("a", 0)))))
        self.assertEqual(fewest_orders(asked), self.brute(asked))
        self.assertEqual(len(fewest_orders(asked)), 2)
        many = built({task: [("put", queue) for queue in "qrst"] for task in "ab"})
        self.assertEqual(len(clashing_steps(many)), 4)
        self.assertIsNone(fewest_orders(many))

    def test_what_cannot_be_told_does_not_mend(self):
        house = built({"a": [("give",), ("give",)], "b": [("give",), ("give",)]})
        ring = ((("a", 1), ("b", 0)), (("b", 1), ("a", 0)))
        self.assertTrue(is_same(with_orders(house, ring)))
        self.assertFalse(mends(house, ring))
        self.assertTrue(mends(house, ring[:1]))


class Errors(Refusing, unittest.TestCase):
    house = built({"a": [("put", "q"), ("give",)], "b": [("get", "q", ())]})

    def test_in_their_order(self):
        for function, rest in ((with_orders, ()), (mends, ()), (state_without_orders, (begin(self.house),))):
            self.refused(NoTask, "z", function, self.house, ((("a", 9), ("b", 0)), (("b", 0), ("z", 0)), (("y", 0), ("a", 0))), *rest)
            self.refused(NoStep, 9, function, self.house, ((("a", 0), ("a", 1)), (("b", 0), ("a", 9)), (("b", 7), ("a", 0))), *rest)
            self.refused(NoStep, -1, function, self.house, [[["a", -1], ["b", 0]]], *rest)
            self.refused(Unfit, None, function, self.house, ((("a", 0), ("b", 0)), (("a", 0), ("a", 1))), *rest)
            self.refused(Unfit, None, function, self.house, [[["b", 0], ["b", 0]]], *rest)
