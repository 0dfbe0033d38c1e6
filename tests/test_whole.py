"""Section 1 and the guarantees over the whole program: all parts tell the same of one HOUSE and one run."""

import unittest

from giveways.board import Board
from giveways.claims import all_standing, is_paper, paper, props, spoilers, stands
from giveways.clash import against, clash_paper, clashing_steps, is_against, is_calm, is_decided, is_same, least_clash, same_paper, two_runs
from giveways.desk import replies
from giveways.edits import edited, undone_by
from giveways.ends import fates, fence, greatest_knot, live, surely_over
from giveways.houses import after, gone_on, is_over, left_over, marks, own_run, ready, rounds, stand_of, states, told
from giveways.lanes import can_be_late, can_get, got_by, lates, surely_late
from giveways.needs import are_alike, need_pairs, surely_ahead
from giveways.orders import classes, ends_told, how_many_runs, how_many_tell, least_run, runs_on, share, sure_turns
from giveways.scripts import all_marks, script_of, step_of, task_names
from giveways.sides import beside, heeders, mends, side_of, sides, state_without_tasks, unwoven, without_gives, without_tasks
from giveways.texts import house_from, house_text
from giveways.told import (
    accounts_of, always_ahead, classes_telling, is_end, is_run_telling, order_by, run_telling, sure_account, telling_tasks,
    unlike_by, was_taken,
)
from giveways.watch import Watch, changed, first_unlike, rest_of, shortest_to, unlike_tasks
from tests.made import Row, made_run
from tests.walked import turns, walked


def cases():
    """Small houses with all their whole runs, the ends by the test's own turns, and some whole runs."""
    for at, (house, plays, wholes) in enumerate(walked()):
        runs = turns(wholes)
        yield at, house, [play.state() for play in wholes], [runs[0], runs[-1], runs[len(runs) // 2]]


class OneRunTellsForAll(unittest.TestCase):
    def test_exactly_where_it_is_so(self):
        seen = {True: 0, False: 0}
        for at, house, ends, runs in cases():
            is_one = len(set(ends)) == 1
            seen[is_one] += 1
            for run in {*runs, own_run(house), sum(rounds(house), ()), made_run(house, at)}:
                self.assertIs(is_calm(house, run), is_one)
                self.assertIs(clash_paper(house, run) is None, is_one)
                self.assertEqual(is_one, least_clash(house, run) is None)
                if is_one:
                    self.assertEqual(told(house, run), ends[0])
                else:
                    pair = two_runs(house, run, *least_clash(house, run))
                    self.assertNotEqual(told(house, pair[0]), told(house, pair[1]))
                    self.assertTrue(is_against(house, pair))
                    self.assertTrue(is_paper(house, ("same",), pair))
        self.assertGreater(min(seen.values()), 30)

    def test_all_parts_say_it(self):
        for _, house, ends, runs in cases():
            is_one = len(set(ends)) == 1
            board = Board()
            board.put("x", house)
            says = (is_same(house), stands(house, ("same",)), against(house) is None, same_paper(house) is not None,
                    paper(house, ("same",)) is None, len(ends_told(house)) == 1, len(classes(house)) == 1,
                    clashing_steps(house) == (), is_decided(house, ()), telling_tasks(house) == [()], unlike_by(house, ()) is None,
                    board.same() == ("x",), all(are_alike(house, runs[0], run) for run in runs) and is_same(house), mends(house, ()),
                    replies(f"put x {house_text(house)}\nsame")[1] == "x", spoilers(house) == () and is_same(house))
            self.assertEqual(set(says), {is_one}, house)
            self.assertTrue(is_one or props(house) == ())

    def test_one_fate_and_one_account(self):
        for _, house, ends, runs in cases():
            if len(set(ends)) == 1:
                for task in task_names(house):
                    row = stand_of(ends[0], task)
                    self.assertEqual(fates(house, task), (row[1],))
                    self.assertEqual(accounts_of(house, task), [row])
                    self.assertEqual(surely_over(house, task), is_over(ends[0], task))
                for mark in all_marks(house):
                    if step_of(house, *mark)[0] == "get":
                        self.assertEqual(can_get(house, mark), tuple(put for put in (got_by(house, runs[0], mark),) if put))
                    if step_of(house, *mark)[0] in ("get", "hear", "join"):
                        self.assertIs(can_be_late(house, mark), mark in lates(house, runs[0]))
                        self.assertIs(surely_late(house, mark), mark in lates(house, runs[0]))

    def test_what_needs_what(self):
        for at, house, ends, runs in cases():
            if len(set(ends)) == 1 and at % 3 == 0:
                own = marks(house, runs[0])
                pairs = {(own[place], own[last]) for place, last in need_pairs(house, runs[0])}
                self.assertEqual(set(always_ahead(house, ends[0])), pairs)
                for one in own:
                    for other in own:
                        if one != other:
                            self.assertIs(surely_ahead(house, one, other), (one, other) in pairs)
                            self.assertIs(stands(house, ("ahead", one, other)), (one, other) in pairs)
                            expected = "ahead" if (one, other) in pairs else "behind" if (other, one) in pairs else "either"
                            self.assertEqual(order_by(house, (), one, other), expected)


class OneHouseAndOneRun(unittest.TestCase):
    def test_a_watch_a_board_a_desk(self):
        for at, house, _, runs in cases():
            if at % 2:
                continue
            run, watch, board = runs[at % 3], Watch(house), Board()
            board.put("x", house)
            for many, state in enumerate(states(house, run)):
                self.assertEqual((watch.state, board.run("x")), (state, run[:many]))
                self.assertEqual(watch.ready(), ready(house, state))
                for task in run[many:many + 1]:
                    watch.take(task)
                    board.turn("x", task)
            end = told(house, run)
            rows = [f"put x {house_text(house)}"] + [f"turn x {task}" for task in run]
            rows += [f"ready x\nclock x\nrun x\nsure x\nkeep x same\nsure x\nkeep x clock {end[0]}\nsure x\nhouse x"]
            told_so = replies("\n".join(rows))
            self.assertEqual(set(told_so[:len(run) + 1]), {"done"})
            self.assertEqual(told_so[len(run) + 1:], ["-", str(end[0]), " ".join(run) or "-", "-", "done", "same", "done",
                                                      f"clock {end[0]}; same", house_text(house)])
            self.assertTrue(is_end(house, watch.state))
            self.assertTrue(is_run_telling(house, watch.state, watch.choices))
            self.assertEqual(house_from(house_text(house)), house)

    def test_ends_orders_told_and_claims(self):
        for at, house, ends, runs in cases():
            self.assertEqual(ends_told(house), sorted(set(ends)))
            self.assertEqual(how_many_runs(house), len(ends))
            self.assertEqual(runs_on(house, ()), len(ends))
            lots = [least for least, _ in classes(house)]
            self.assertEqual(sorted(run for state in set(ends) for run in classes_telling(house, state)), lots)
            for state in sorted(set(ends))[:3]:
                self.assertTrue(is_end(house, state))
                self.assertEqual(how_many_tell(house, state), ends.count(state))
                self.assertEqual(share(house, state)[0] * len(ends), ends.count(state) * share(house, state)[1])
                self.assertEqual(least_run(house, state), classes_telling(house, state)[0])
                self.assertEqual(told(house, run_telling(house, state)), state)
                self.assertEqual(rest_of(house, (), run_telling(house, state)), least_run(house, state))
                self.assertLessEqual(set(left_over(state)), set(greatest_knot(house, state)))
                self.assertEqual(greatest_knot(house, state), live(house, state))
            words = {"ended": "ends", "stopped": "stops", "going": "waits"}
            standing = all_standing(house)
            for task in task_names(house):
                known = fates(house, task)
                for status, word in words.items():
                    self.assertIs((word, task) in standing, known == (status,))
                sure = sure_account(house, (), task)
                self.assertEqual(sure is None, len(accounts_of(house, task)) > 1)
                for number in range(len(script_of(house, task))):
                    self.assertIs(("takes", (task, number)) in standing, was_taken(house, (), (task, number)) == "yes")
                    many = shortest_to(house, task, number + 1)
                    self.assertIs(many is None, was_taken(house, (), (task, number)) == "no")
            self.assertLessEqual({told(house, gone_on(house, run)) for run in fence(house)}, set(ends))

    def test_sure_turns_and_a_board(self):
        for at, house, ends, runs in cases():
            if at % 4:
                continue
            board = Board()
            board.put("x", house)
            claims = [claim for claim in all_standing(house)] + [("same",)]
            for claim in claims:
                board.keep("x", claim)
            self.assertEqual(board.standing("x"), tuple(sorted(claim for claim in claims if stands(house, claim))))
            for many, task in enumerate(runs[0]):
                self.assertIs(("same",) in board.sure("x"), is_decided(house, runs[0][:many]))
                self.assertLessEqual(set(board.standing("x")), set(board.sure("x")))
                board.turn("x", task)
            self.assertEqual(board.sure("x"), board.claims("x"))
            self.assertIn(0, sure_turns(house))


class HousesChanged(unittest.TestCase):
    def test_beside_and_alone(self):
        for at, house, ends, runs in cases():
            lots = sides(house)
            whole = side_of(house, lots[0][0])
            for lot in lots[1:]:
                whole = beside(whole, side_of(house, lot[0]))
            self.assertEqual((whole[0], whole[1]), (house[0], house[1]))
            self.assertIs(is_same(house), all(is_same(side_of(house, lot[0])) for lot in lots))
            for lot, own in zip(lots, unwoven(house, runs[0])):
                self.assertIs(is_end(side_of(house, lot[0]), after(side_of(house, lot[0]), own)), True)
            task = task_names(house)[at % len(task_names(house))]
            some = heeders(house, task)
            if len(some) < len(task_names(house)):
                left = {state_without_tasks(house, some, state)[1:] for state in ends}
                self.assertEqual(left, {state[1:] for state in ends_told(without_tasks(house, some))})
            self.assertEqual(is_same(without_gives(house)), is_same(house))

    def test_edits_on_a_board(self):
        for at, house, _, _ in cases():
            if at % 5:
                continue
            row, board = Row(at), Board()
            board.put("x", house)
            board.put("y", house)
            for _ in range(4):
                task = row.one_of(task_names(board["x"]))
                edit = ("in", task, row.below(len(script_of(board["x"], task)) + 1), ("give",))
                back = undone_by(board["x"], edit)
                later = edited(board["x"], edit)
                board.edit("x", edit)
                self.assertEqual(board["x"], later)
                self.assertNotEqual(board["x"], house)
                board.edit("x", back)
                self.assertEqual(board["x"], house)
            self.assertEqual(board.alike(), (("x", "y"),))
            for _ in range(8):
                board.undo()
            self.assertEqual(board.deeds, 2)

    def test_runs_changed(self):
        for at, house, ends, runs in cases():
            first, last = runs[0], runs[1]
            if told(house, first) == told(house, last):
                self.assertEqual((unlike_tasks(house, first, last), first_unlike(house, first, last)), ((), None))
            for number in range(0, len(first), 2):
                for task in ready(house, after(house, first[:number])):
                    run, left = changed(house, first, number, task)
                    if are_alike(house, run, first):
                        self.assertEqual(left, ())
                    if len(set(ends)) == 1:
                        self.assertTrue(are_alike(house, run, first))
