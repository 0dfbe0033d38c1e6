"""What holds along many runs of many houses [3], [4], and the package held against a literal reading."""

import itertools
import unittest

from giveways import houses
from giveways.scripts import is_house, script_of, shields_at
from tests.made import made_house, made_run, stands
from tests.plain import Play

MANY = 400


def cases():
    for number in range(MANY):
        house = made_house(number)
        for start in (number, number + 1):
            yield house, made_run(house, start)


def numbers_of_puts(state):
    return [lane[2] for lane in state[2]]


class AlongRuns(unittest.TestCase):
    @classmethod
    def setUpClass(cls):
        cls.cases = [(house, run, houses.states(house, run)) for house, run in cases()]

    def test_like_the_literal_reading(self):
        for house, run, states in self.cases:
            self.assertTrue(is_house(house))
            play = Play(house)
            self.assertEqual(states[0], play.state())
            for at, task in enumerate(run):
                self.assertEqual(houses.ready(house, states[at]), play.ready())
                play.take(task)
                self.assertEqual(states[at + 1], play.state())

    def test_the_rule_makes_all_kinds(self):
        words, entries, statuses, held = set(), set(), set(), 0
        for house, run, states in self.cases:
            words |= {step[0] for row in house[0] for step in row[2]}
            for row in states[-1][1]:
                statuses.add(row[1])
                entries |= {entry[0] for entry in row[6]}
                held += row[4] != ()
        self.assertEqual(len(words), 14)
        self.assertEqual(entries, {"put", "got", "heard", "late", "joined", "closed", "stopped"})
        self.assertEqual(statuses, {"idle", "going", "ended", "stopped", "failed"})
        self.assertGreater(held, 20)

    def test_diaries_grow_and_nothing_sinks(self):
        for house, run, states in self.cases:
            for one, other in zip(states, states[1:]):
                self.assertLessEqual(one[0], other[0])
                for few, many in zip(numbers_of_puts(one), numbers_of_puts(other)):
                    self.assertLessEqual(few, many)
                for row, later in zip(one[1], other[1]):
                    self.assertEqual(later[6][:len(row[6])], row[6])
                    self.assertLessEqual(row[2], later[2])

    def test_at_most_as_many_turns_as_steps(self):
        for house, run, states in self.cases:
            self.assertLessEqual(len(run), sum(len(row[2]) for row in house[0]))
            self.assertEqual(len(run), sum(row[2] for row in states[-1][1]))

    def test_the_marks_are_the_steps_taken(self):
        for house, run, states in self.cases:
            marks = houses.marks(house, run)
            self.assertEqual(tuple(mark[0] for mark in marks), run)
            for task in stands(states[-1]):
                taken = [mark[1] for mark in marks if mark[0] == task]
                self.assertEqual(taken, list(range(stands(states[-1])[task]["number"])))
                places = houses.places_of(house, run, task)
                self.assertEqual(places, tuple(at for at, name in enumerate(run) if name == task))

    def test_settled(self):
        for house, run, states in self.cases:
            for state in states:
                if houses.is_done(house, state):
                    steps = [houses.next_step(house, state, task) for task in houses.left_over(state)]
                    self.assertFalse([step for step in steps if step[0] == "until" or len(step) > 2 and step[2] != ()])
            self.assertTrue(houses.is_whole(house, run))
            self.assertEqual(houses.told(house, run), states[-1])

    def test_stands_hang_together(self):
        for house, run, states in self.cases:
            for state in states:
                for row in state[1]:
                    steps = script_of(house, row[0])
                    self.assertEqual(row[5] != (), row[1] == "failed")
                    self.assertEqual(row[6][-1:] == (("stopped", row[6][-1][1]),) if row[6] else False, row[1] == "stopped")
                    self.assertTrue(row[1] != "ended" or row[2] == len(steps))
                    self.assertTrue(row[1] != "going" or row[2] < len(steps))
                    self.assertTrue(row[1] != "idle" or row[2:] == (0, (), (), (), ()))
                    self.assertTrue(row[1] != "stopped" or shields_at(house, row[0], row[2]) == 0)

    def test_puts_are_got_in_their_order(self):
        for house, run, states in self.cases:
            for queue, lying, puts in states[-1][2]:
                put = [mark for mark in houses.marks(house, run) if script_of(house, mark[0])[mark[1]] == ("put", queue)]
                self.assertEqual(puts, len(put))
                self.assertEqual(tuple(put[puts - len(lying):]), lying)

    def test_queues_keep_to_their_rooms(self):
        for house, run, states in self.cases:
            rooms = dict(house[2])
            for state in states:
                for queue, lying, puts in state[2]:
                    self.assertLessEqual(len(lying), rooms.get(queue, puts))


class WholeRuns(unittest.TestCase):
    def test_own_run(self):
        for number in range(MANY):
            house = made_house(number)
            run = houses.own_run(house)
            self.assertTrue(houses.is_whole(house, run))
            self.assertLess(houses.longest_wait(house, run), len(house[0]))
            self.assertTrue(houses.is_fair(house, run, len(house[0]) - 1))

    def test_rounds(self):
        for number in range(MANY):
            house = made_house(number)
            rounds = houses.rounds(house)
            run = tuple(itertools.chain(*rounds))
            self.assertTrue(houses.is_whole(house, run))
            done = ()
            for lot in rounds:
                self.assertTrue(lot)
                self.assertEqual(lot, tuple(sorted(set(lot))))
                self.assertLessEqual(set(lot), set(houses.ready(house, houses.after(house, done))))
                done += lot

    def test_run_by_and_gone_on(self):
        for number in range(MANY):
            house = made_house(number)
            names = tuple(row[0] for row in house[0])
            self.assertEqual(houses.run_by(house, names), houses.gone_on(house, ()))
            for row in (names, names[::-1], names[1:] + names[:1]):
                run = houses.run_by(house, row)
                self.assertTrue(houses.is_whole(house, run))
                for state, task in zip(houses.states(house, run), run):
                    self.assertEqual(task, min(houses.ready(house, state), key=row.index))
            run = made_run(house, number)
            begun = run[:len(run) // 2]
            gone = houses.gone_on(house, begun)
            self.assertEqual(gone[:len(begun)], begun)
            self.assertTrue(houses.is_whole(house, gone))
            for state, task in list(zip(houses.states(house, gone), gone))[len(begun):]:
                self.assertEqual(task, houses.ready(house, state)[0])

    def test_waits_counted_in_another_way(self):
        for number in range(MANY):
            house = made_house(number)
            run = made_run(house, number)
            lots = [houses.ready(house, state) for state in houses.states(house, run)]
            longest = {}
            for row in house[0]:
                task = row[0]
                signs = "".join("x" if task in lot and name != task else "." for lot, name in zip(lots, run))
                longest[task] = max(len(part) for part in signs.split("."))
            self.assertEqual(houses.longest_wait(house, run), max(longest.values()))
            for many in range(4):
                told = tuple(sorted(task for task in longest if longest[task] > many))
                self.assertEqual(houses.who_waits(house, run, many), told)
                self.assertEqual(houses.is_fair(house, run, many), told == ())


class AllRuns(unittest.TestCase):
    """What [3] guarantees of all runs: two ends exactly if two tasks clash behind some run."""

    def reach(self, house):
        first = houses.begin(house)
        behind, left = {}, [first]
        while left and len(behind) < 150:
            state = left.pop()
            if state not in behind:
                behind[state] = {task: houses.turn(house, state, task) for task in houses.ready(house, state)}
                left.extend(behind[state].values())
        return behind if not left else None

    def clash(self, behind, turns, one, other):
        first, second = behind[turns[one]].get(other), behind[turns[other]].get(one)
        return first is None or second is None or first != second

    def test_one_end_exactly_if_no_two_clash(self):
        alike = unlike = 0
        for number in range(MANY):
            house = made_house(number)
            behind = self.reach(house)
            if behind is None:
                continue
            ends = [state for state in behind if not behind[state]]
            clashes = any(
                self.clash(behind, turns, one, other)
                for turns in behind.values() for one, other in itertools.combinations(sorted(turns), 2)
            )
            self.assertEqual(len(ends) > 1, clashes, house)
            alike, unlike = alike + (not clashes), unlike + clashes
        self.assertGreater(alike, 50)
        self.assertGreater(unlike, 20)
