"""[15] CLAIMS and PAPERS: each row of the second table against all whole runs of small houses."""

import unittest

from giveways.claims import all_standing, is_claim, is_paper, paper, props, spoilers, stands
from giveways.clash import is_same
from giveways.edits import edited
from giveways.errors import HouseError, Unfit
from giveways.houses import is_whole
from giveways.needs import needs
from giveways.scripts import all_marks, step_of, task_names
from giveways.shapes import tupled
from tests.alike import marks_of
from tests.made import Refusing, built, judged, listed, odd_things, spoilt
from tests.plain import whole_plays
from tests.walked import walked

STATUSES = {"ends": "ended", "stops": "stopped", "waits": "going"}
TIMED = ("get", "hear", "join")


def claims_of(house, wholes):
    """All CLAIMS of the HOUSE with moments and words that come in it, and some that do not."""
    tasks, marks = task_names(house), all_marks(house)
    told = [("same",)] + [(word, task) for word in STATUSES for task in tasks]
    words = {play.words[task] for play in wholes for task in tasks if play.words[task]} | {("v", "w"), ("x",)}
    told += [("fails", task, some) for task in tasks for some in sorted(words)]
    told += [("takes", mark) for mark in marks]
    told += [("late", mark) for mark in marks if step_of(house, *mark)[0] in TIMED]
    told += [("ahead", one, other) for one in marks for other in marks if one != other]
    told += [("gets", one, other) for one in marks for other in marks
             if step_of(house, *one)[0] == "get" and step_of(house, *other)[0] == "put"]
    return told + [("clock", number) for number in sorted({play.clock for play in wholes} | {0, 7})]


def is_so(play, claim):
    """Whether a CLAIM other than "same" is so in this whole run, by what was logged in it."""
    word, *parts = claim
    taken = [mark for mark, in play.events("taken")]
    if word in STATUSES:
        return play.status[parts[0]] == STATUSES[word]
    if word == "fails":
        return play.status[parts[0]] == "failed" and play.words[parts[0]] == parts[1]
    if word == "takes":
        return parts[0] in taken
    if word == "late":
        return (parts[0],) in play.events("late")
    if word == "ahead":
        return parts[1] not in taken or parts[0] in taken[:taken.index(parts[1])]
    if word == "gets":
        return tuple(parts) in [(getter, put) for _, getter, put in play.events("got")]
    return play.clock == parts[0]


def holds(wholes, claim):
    if claim == ("same",):
        return len({play.state() for play in wholes}) == 1
    return all(is_so(play, claim) for play in wholes)


class Rows(unittest.TestCase):
    def test_each_row_against_all_whole_runs(self):
        seen = {}
        for at, (house, _, wholes) in enumerate(walked()):
            claims = claims_of(house, wholes)
            claims = claims if len(claims) < 60 else claims[at % 3::3]
            for claim in claims:
                self.assertTrue(is_claim(house, claim))
                expected = holds(wholes, claim)
                self.assertIs(stands(house, claim), expected, (house, claim))
                found = paper(house, claim)
                self.assertIs(found is None, expected)
                if found is not None:
                    self.assertIs(is_paper(house, claim, found), True)
                    if claim != ("same",):
                        self.assertTrue(is_whole(house, found))
                seen[(claim[0], expected)] = seen.get((claim[0], expected), 0) + 1
        self.assertEqual(len(seen), 20)
        self.assertGreater(min(seen.values()), 5, seen)

    def test_lists(self):
        for house, _, wholes in walked()[:60]:
            for claim in claims_of(house, wholes)[::4]:
                found = paper(house, claim)
                self.assertIs(stands(listed(house), listed(claim)), found is None)
                self.assertEqual(paper(listed(house), listed(claim)), found)
                self.assertIs(is_paper(listed(house), listed(claim), found), found is not None)

    def test_is_paper(self):
        for at, (house, plays, wholes) in enumerate(walked()):
            runs = {tuple(play.turns): play for play in wholes}
            others = [tuple(play.turns) for play in plays[::max(1, len(plays) // 10)]]
            for claim in claims_of(house, wholes)[1 + at % 7::7]:
                for thing in [*others, *list(runs)[::max(1, len(runs) // 10)]]:
                    self.assertIs(is_paper(house, claim, thing), thing in runs and not is_so(runs[thing], claim))
                    self.assertFalse(is_paper(house, claim, list(thing)))

    def test_is_paper_of_every_kind(self):
        many = set()
        for at, (house, plays, wholes) in enumerate(walked()):
            if not 2 <= len(wholes) <= 8:
                continue
            claims = [claim for claim in claims_of(house, wholes) if not holds(wholes, claim)]
            claim = claims[at * 5 % len(claims)] if claims else ("same",)
            if claim == ("same",):
                states = {tuple(play.turns): play.state() for play in wholes}
                right = [(one, other) for one in states for other in states if states[one] != states[other]]
                others = [(one, other) for one in states for other in states] + list(states)
            else:
                right = [tuple(play.turns) for play in wholes if not is_so(play, claim)]
                others = [tuple(play.turns) for play in plays]
            judged(self, lambda thing: is_paper(house, claim, thing), right, others)
            many.add(claim[0])
        self.assertGreater(len(many), 6)

    def test_pairs(self):
        house = built({"a": [("put", "q"), ("get", "q", ())], "b": [("put", "q"), ("get", "q", ())]}, {}, {"q": 1})
        self.assertTrue(is_paper(house, ("same",), (("a", "a", "b", "b"), ("b", "b", "a", "a"))))
        self.assertFalse(is_paper(house, ("same",), (("a", "a", "b", "b"), ("a", "a", "b", "b"))))
        self.assertFalse(is_paper(house, ("same",), (("a", "a", "b", "b"), ("b", "b", "a"))))
        self.assertFalse(is_paper(house, ("same",), [("a", "a", "b", "b"), ("b", "b", "a", "a")]))
        self.assertFalse(is_paper(house, ("same",), ("a", "a", "b", "b")))


class Guarantees(unittest.TestCase):
    def test_one_whole_run_tells(self):
        """Where all orders tell the same, a CLAIM stands exactly if it is so in one whole run."""
        many = 0
        for house, _, wholes in walked():
            if not is_same(house):
                continue
            for play in (wholes[0], wholes[-1]):
                run = tuple(play.turns)
                own = marks_of(run)
                for claim in claims_of(house, wholes)[::2]:
                    if claim[0] not in ("same", "ahead"):
                        self.assertIs(stands(house, claim), is_so(play, claim))
                    if claim[0] == "ahead":
                        is_needed = claim[2] not in own or claim[1] in own and own.index(claim[1]) in needs(
                            house, run, own.index(claim[2]))
                        self.assertIs(stands(house, claim), is_needed)
                    many += 1
        self.assertGreater(many, 300)


class Sets(unittest.TestCase):
    def test_all_standing(self):
        seen = set()
        for house, _, wholes in walked():
            left = [claim for claim in claims_of(house, wholes) if claim[0] not in ("same", "late", "ahead", "gets")]
            expected = tuple(sorted(claim for claim in left if holds(wholes, claim)))
            self.assertEqual(all_standing(house), expected)
            self.assertEqual(all_standing(listed(house)), expected)
            seen |= {claim[0] for claim in expected}
        self.assertEqual(seen, {"ends", "stops", "waits", "fails", "takes", "clock"})

    def without(self, house):
        """For each MARK whether the HOUSE without this STEP tells the same by all its whole runs; those that are none left out."""
        told = {}
        for mark in all_marks(house):
            try:
                plays = whole_plays(edited(house, ("out", *mark)), 4000)
            except HouseError:
                continue
            if plays is None:
                return None
            told[mark] = len({play.state() for play in plays}) == 1
        return told

    def test_spoilers_and_props(self):
        seen = {"spoilers": 0, "props": 0, "none": 0}
        for house, _, wholes in walked():
            told = self.without(house)
            if told is None:
                continue
            is_alike = len({play.state() for play in wholes}) == 1
            right = tuple(mark for mark in told if told[mark] and not is_alike)
            wrong = tuple(mark for mark in told if not told[mark] and is_alike)
            self.assertEqual(spoilers(house), right)
            self.assertEqual(props(listed(house)), wrong)
            seen["spoilers"] += len(right) > 0
            seen["props"] += len(wrong) > 0
            seen["none"] += right == wrong == ()
        self.assertGreater(min(seen.values()), 10)

    def test_a_step_without_which_there_is_no_house(self):
        house = built({"h": [("start", "a"), ("start", "b"), ("close", "g")], "a in g": [("put", "q")], "b in g": [("put", "q")]}, {"g": "h"})
        self.assertEqual(spoilers(house), (("a", 0), ("b", 0)))
        self.assertEqual(props(house), ())
        calm = built({"a": [("in",), ("give",), ("out",)], "b": [("hear", "s", ()), ("put", "q")], "c": [("put", "q"), ("set", "s")]})
        self.assertEqual((spoilers(calm), props(calm)), ((), (("b", 0),)))


class Claims(Refusing, unittest.TestCase):
    house = built({"a": [("put", "q"), ("hear", "s", 3), ("give",)], "b": [("get", "q", ()), ("fail", "w")], "c": []})
    RIGHT = (("same",), ("ends", "c"), ("stops", "a"), ("waits", "b"), ("fails", "a", ("v",)), ("fails", "b", ("v", "w", "x")),
             ("takes", ("a", 2)), ("late", ("a", 1)), ("late", ("b", 0)), ("ahead", ("a", 2), ("a", 0)), ("ahead", ("b", 1), ("a", 0)),
             ("gets", ("b", 0), ("a", 0)), ("clock", 0), ("clock", 10 ** 30))
    WRONG = ((), ("same", ()), ("ends", "z"), ("ends", ""), ("ends", ("a", 0)), ("ends", "a", "b"), ("stops",), ("fails", "a", ()),
             ("fails", "z", ("v",)), ("fails", "a", ("w", "v")), ("fails", "a", ("v", "v")), ("fails", "a", ("V",)), ("fails", "a", "v"),
             ("fails", "a", ["v"]), ("takes", ("a", 3)), ("takes", ("a", -1)), ("takes", ("z", 0)), ("takes", ("c", 0)),
             ("takes", ("a", False)), ("takes", ["a", 0]), ("late", ("a", 0)), ("late", ("b", 1)), ("ahead", ("a", 0), ("a", 0)),
             ("ahead", ("a", 0)), ("ahead", ("a", 0), ("b", 2)), ("gets", ("a", 0), ("b", 0)), ("gets", ("b", 0), ("b", 1)),
             ("gets", ("b", 0), ("b", 0)), ("clock", -1), ("clock", True), ("clock", "0"), ("clock", None), ("told",), "same", ["same"],
             (("same",),), ("in", "a", 0, ("give",)))

    def test_what_is_a_claim(self):
        for thing in self.RIGHT:
            self.assertIs(is_claim(self.house, thing), True, thing)
            self.assertIs(is_claim(listed(self.house), thing), True)
            self.assertIs(is_claim(self.house, list(thing)), False)
        for thing in (*self.WRONG, *odd_things()):
            self.assertIs(is_claim(self.house, thing), False, thing)

    def test_one_thing_changed(self):
        known = {repr(claim) for claim in claims_of(self.house, [])}
        more = 0
        for thing in self.RIGHT:
            for other in spoilt(thing):
                told = is_claim(self.house, other)
                by_words = type(other) is tuple and len(other) == 3 and other[0] == "fails" and other[1] in ("a", "b", "c") and (
                    type(other[2]) is tuple and 0 < len(other[2]) and all(type(word) is str and word.isalpha() and word.islower()
                                                                         for word in other[2])
                    and list(other[2]) == sorted(set(other[2])))
                by_clock = type(other) is tuple and len(other) == 2 and other[0] == "clock" and type(other[1]) is int and other[1] >= 0
                self.assertIs(told, repr(other) in known or by_words or by_clock, other)
                more += told
        self.assertGreater(more, 5)

    def test_refused(self):
        for thing in self.WRONG[:-6]:
            for shape in (thing, listed(thing)):
                if is_claim(self.house, tupled(thing)):
                    continue
                self.refused(Unfit, None, stands, self.house, shape)
                self.refused(Unfit, None, paper, self.house, shape)
                for other in (None, ("a",), 7):
                    self.refused(Unfit, None, is_paper, self.house, shape, other)
        self.assertTrue(stands(self.house, ["takes", ["a", 0]]))
