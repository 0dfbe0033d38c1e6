"""[6] What can and what surely comes, against all whole runs of small houses."""

import unittest

from giveways.lanes import (
    can_be_late, can_get, can_miss, can_set, fullest, is_fullest, is_miss, is_unset_run, latest_over, least_room, most_lying,
    soonest_over, surely_late, unset_run,
)
from giveways.scripts import all_marks, queue_names, signal_names, step_of, task_names, with_room
from tests.made import built, judged
from tests.plain import all_plays, whole_plays
from tests.walked import turns, walked


def marks_of(house, *words):
    return [mark for mark in all_marks(house) if step_of(house, *mark)[0] in words]


def ends(house):
    return {play.state() for play in whole_plays(house, 10 ** 5)}


class Lanes(unittest.TestCase):
    def test_gets(self):
        seen = set()
        for house, _, wholes in walked():
            for mark in marks_of(house, "get"):
                got = [{event[1]: event[2] for event in play.events("got")}.get(mark) for play in wholes]
                self.assertEqual(can_get(house, mark), tuple(sorted(set(got) - {None})))
                missed = [run for run, put in zip(turns(wholes), got) if put is None]
                run = can_miss(house, mark)
                self.assertTrue(run in missed if missed else run is None)
                self.assertIs(is_miss(house, mark, run), bool(missed))
                seen.add((bool(missed), len(set(got) - {None})))
        self.assertLessEqual({(True, 0), (True, 1), (False, 1), (False, 2), (True, 2)}, seen)

    def test_is_miss(self):
        for house, plays, wholes in walked()[:40]:
            for mark in marks_of(house, "get")[:1]:
                right = [tuple(play.turns) for play in wholes if mark not in [event[1] for event in play.events("got")]]
                judged(self, lambda thing: is_miss(house, mark, thing), right)
                for play in plays:
                    run = tuple(play.turns)
                    self.assertEqual(is_miss(house, mark, run), run in right)

    def test_signals(self):
        for house, _, wholes in walked():
            for signal in signal_names(house):
                setters = [play.setter[signal] for play in wholes]
                self.assertEqual(can_set(house, signal), tuple(sorted(set(setters) - {()})))
                unset = [run for run, mark in zip(turns(wholes), setters) if not mark]
                run = unset_run(house, signal)
                self.assertTrue(run in unset if unset else run is None)
                self.assertIs(is_unset_run(house, signal, run), bool(unset))

    def test_is_unset_run(self):
        for house, plays, wholes in walked()[:60]:
            for signal in signal_names(house)[:1]:
                right = [tuple(play.turns) for play in wholes if not play.setter[signal]]
                for play in plays:
                    run = tuple(play.turns)
                    self.assertEqual(is_unset_run(house, signal, run), run in right)
                known = {repr(run) for run in right}
                for run in right[:3]:
                    self.assertFalse(is_unset_run(house, signal, list(run)))
                    self.assertFalse(is_unset_run(house, signal, run + ("ann",)))
                self.assertEqual(is_unset_run(house, signal, ()), "()" in known)

    def test_lates(self):
        seen = set()
        for house, _, wholes in walked():
            for mark in marks_of(house, "get", "hear", "join"):
                late = [(mark,) in play.events("late") for play in wholes]
                self.assertIs(can_be_late(house, mark), any(late))
                self.assertIs(surely_late(house, mark), all(late))
                seen.add((any(late), all(late)))
        self.assertEqual(seen, {(False, False), (True, False), (True, True)})

    def test_over(self):
        seen = set()
        for house, _, wholes in walked():
            for task in task_names(house):
                over = [play.over_at.get(task) for play in wholes]
                known = [clock for clock in over if clock is not None]
                self.assertEqual(soonest_over(house, task), min(known, default=None))
                self.assertEqual(latest_over(house, task), max(known) if None not in over else None)
                seen.add((len(set(known)) > 1, None in over, bool(known)))
        self.assertLessEqual({(True, False, True), (False, True, False), (False, True, True)}, seen)

    def test_most_lying(self):
        for house, plays, _ in walked():
            for queue in queue_names(house):
                most = max(len(play.lying[queue]) for play in plays)
                self.assertEqual(most_lying(house, queue), most)
                full = [tuple(play.turns) for play in plays if len(play.lying[queue]) == most]
                self.assertIn(fullest(house, queue), full)
                self.assertTrue(is_fullest(house, queue, fullest(house, queue)))

    def test_is_fullest(self):
        for house, plays, _ in walked()[:40]:
            for queue in queue_names(house)[:1]:
                most = max(len(play.lying[queue]) for play in plays)
                right = [tuple(play.turns) for play in plays if len(play.lying[queue]) == most]
                for play in plays:
                    self.assertEqual(is_fullest(house, queue, tuple(play.turns)), tuple(play.turns) in right)
        house = built({"a": [("put", "q"), ("get", "q", ())], "b": [("put", "q")]})
        right = [tuple(play.turns) for play in all_plays(house, 99) if len(play.lying["q"]) == 2]
        judged(self, lambda thing: is_fullest(house, "q", thing), right)

    def test_is_miss_on_things(self):
        house = built({"a": [("put", "q")], "b": [("get", "q", 3)], "c": [("get", "q", 3)]})
        judged(self, lambda thing: is_miss(house, ("b", 0), thing), [("a", "c", "b")])
        silent = built({"a": [("hear", "s", ()), ("set", "s")], "b": [("give",)]})
        judged(self, lambda thing: is_unset_run(silent, "s", thing), [("b",)])

    def test_least_room(self):
        seen = set()
        for house, _, _ in walked():
            for queue in queue_names(house):
                puts = [mark for mark in marks_of(house, "put") if step_of(house, *mark)[1] == queue]
                known = [ends(with_room(house, queue, room)) for room in range(1, max(2, len(puts) + 1))]
                self.assertEqual(least_room(house, queue), known.index(known[-1]) + 1)
                seen.add(least_room(house, queue))
        self.assertLessEqual({1, 2}, seen)

    def test_least_room_of_what_no_step_names(self):
        self.assertEqual(least_room(built({"a": [("give",)]}, {}, {"q": 3}), "q"), 1)
        self.assertEqual(most_lying(built({"a": [("give",)]}, {}, {"q": 3}), "q"), 0)
        self.assertEqual(fullest(built({"a": [("give",)]}, {}, {"q": 3}), "q"), ())

    def test_least_room_of_three(self):
        house = built({"a": [("put", "q"), ("put", "q"), ("put", "q"), ("set", "s")], "b": [("hear", "s", ())]})
        self.assertEqual(least_room(house, "q"), 3)
        self.assertEqual(least_room(with_room(house, "q", 1), "q"), 3)
