"""[13] Watches against a plain list of turns, and RUNS changed and held against one another."""

import unittest

from giveways.clash import is_same
from giveways.errors import NoNumber, NoTask, NothingDone, NotReady
from giveways.houses import after, begin, marks, ready, stand_of, states, told
from giveways.scripts import task_names
from giveways.watch import Watch, changed, first_unlike, held_up, moments, rest_of, shortest_to, unlike_tasks
from tests.made import Refusing, Row, built, listed, made_house, made_run
from tests.plain import Play, played
from tests.walked import turns, walked


class Plain:
    """What a Watch must tell, as one list of turns and how many of them are taken."""

    def __init__(self, house):
        self.house, self.turns, self.many = house, [], 0

    def take(self, task):
        if self.turns[self.many:self.many + 1] != [task]:
            self.turns = self.turns[:self.many] + [task]
        self.many += 1


class Walks(Refusing, unittest.TestCase):
    def hold(self, watch, plain):
        house, taken = plain.house, tuple(plain.turns[:plain.many])
        play = played(house, taken)
        self.assertEqual((watch.house, watch.choices, watch.ahead), (house, taken, tuple(plain.turns[plain.many:])))
        self.assertEqual(watch.state, play.state())
        self.assertEqual(watch.ready(), play.ready())
        self.assertEqual(len(watch), plain.many)
        for number in range(len(plain.turns) + 1):
            self.assertEqual(watch.state_at(number), played(house, plain.turns[:number]).state())
        for task in task_names(house):
            self.assertEqual(watch.diary(task), tuple(play.diary[task]))

    def deed(self, watch, plain, row, wants):
        """One deed told by the row of numbers, on both; what is refused changes nothing."""
        before = watch.twin()
        names = task_names(plain.house)
        if wants == "take":
            task = row.one_of(names + ("zed",) + tuple(plain.turns[plain.many:plain.many + 1]) * 3)
            if task == "zed":
                self.refused(NoTask, task, watch.take, task)
            elif task in watch.ready():
                self.assertIsNone(watch.take(task))
                plain.take(task)
                return
            else:
                self.refused(NotReady, task, watch.take, task)
        elif wants == "go":
            tasks = self.some_turns(plain, row)
            wrong = self.first_wrong(plain, tasks)
            if wrong is None:
                self.assertIsNone(watch.go(row.one_of((tuple, list))(tasks)))
                for task in tasks:
                    plain.take(task)
                return
            self.refused(wrong[0], wrong[1], watch.go, tasks)
        elif wants in ("back", "again"):
            if plain.many == (0 if wants == "back" else len(plain.turns)):
                self.refused(NothingDone, None, getattr(watch, wants))
            else:
                self.assertIsNone(getattr(watch, wants)())
                plain.many += 1 if wants == "again" else -1
                return
        else:
            number = row.below(len(plain.turns) + 4) - 2
            if 0 <= number <= len(plain.turns):
                self.assertIsNone(watch.to(number))
                plain.many = number
                return
            self.refused(NoNumber, number, watch.to, number)
            self.refused(NoNumber, number, watch.state_at, number)
        self.assertEqual(watch, before)

    def some_turns(self, plain, row):
        play, tasks = played(plain.house, plain.turns[:plain.many]), []
        for _ in range(row.below(5)):
            if play.ready():
                tasks.append(row.one_of(play.ready()))
                play.take(tasks[-1])
        if row.below(3) == 0:
            tasks.insert(row.below(len(tasks) + 1), row.one_of(task_names(plain.house) + ("zed", "yew")))
        if row.below(3) == 0:
            tasks = plain.turns[plain.many:][:1 + row.below(3)] + tasks[:row.below(2)]
        return tuple(tasks)

    def first_wrong(self, plain, tasks):
        for task in tasks:
            if task not in task_names(plain.house):
                return NoTask, task
        play = played(plain.house, plain.turns[:plain.many])
        for task in tasks:
            if not play.is_ready(task):
                return NotReady, task
            play.take(task)
        return None

    def test_many_deeds(self):
        done = {}
        for number in range(90):
            house, row = made_house(number), Row(number + 5000)
            watch, plain = Watch(house if number % 2 else listed(house)), Plain(house)
            for _ in range(25):
                wants = row.one_of(("take", "take", "take", "go", "back", "back", "again", "to"))
                held = (watch.choices, watch.ahead)
                self.deed(watch, plain, row, wants)
                self.hold(watch, plain)
                key = (wants, (watch.choices, watch.ahead) == held)
                done[key] = done.get(key, 0) + 1
        self.assertEqual(len(done), 10)
        self.assertGreater(min(done.values()), 20)

    def test_turns_ahead(self):
        house = built({"a": [("give",)] * 3, "b": [("give",)] * 2})
        watch = Watch(house)
        watch.go(("a", "b", "a"))
        watch.to(0)
        self.assertEqual(watch.ahead, ("a", "b", "a"))
        watch.take("a")
        self.assertEqual((watch.choices, watch.ahead), (("a",), ("b", "a")))
        watch.go(["b"])
        self.assertEqual((watch.choices, watch.ahead), (("a", "b"), ("a",)))
        watch.take("b")
        self.assertEqual((watch.choices, watch.ahead), (("a", "b", "b"), ()))
        watch.back()
        watch.go(())
        self.assertEqual(watch.ahead, ("b",))
        watch.go(("b", "a"))
        self.assertEqual((watch.choices, watch.ahead), (("a", "b", "b", "a"), ()))

    def test_one_wrong_name_in_the_middle(self):
        house = built({"a": [("give",)] * 3, "b": [("get", "q", ())]})
        watch = Watch(house)
        watch.go(("a", "a"))
        watch.back()
        for error, name, row in ((NoTask, "z", ("a", "b", "z", "a")), (NotReady, "b", ("a", "b", "a")), (NotReady, "a", ["a"] * 3)):
            self.refused(error, name, watch.go, row)
            self.assertEqual((watch.choices, watch.ahead, len(watch)), (("a",), ("a",), 1))


class Twins(unittest.TestCase):
    def test_twins_go_on_apart(self):
        for number in range(60):
            house, run = made_house(number), made_run(made_house(number), number)
            if len(run) < 3:
                continue
            watch = Watch(house)
            watch.go(run)
            watch.to(len(run) - 2)
            twin = watch.twin()
            self.assertIsNot(watch, twin)
            self.assertTrue(watch == twin)
            self.assertFalse(watch != twin)
            twin.back()
            self.assertFalse(watch == twin)
            self.assertTrue(watch != twin)
            self.assertEqual((watch.choices, watch.ahead), (run[:-2], run[-2:]))
            watch.to(len(run))
            self.assertEqual(twin.choices, run[:-3])
            self.assertEqual(watch.state, told(house, run))
            twin.to(len(run))
            self.assertEqual(watch, twin)

    def test_what_is_equal(self):
        house, other = built({"a": [("give",)] * 2}), built({"a": [("give",)] * 3})
        watch = Watch(house)
        self.assertEqual(watch, Watch(listed(house)))
        self.assertNotEqual(watch, Watch(other))
        for thing in (None, 0, (), house, "watch", [], object(), ("a",)):
            self.assertFalse(watch == thing)
            self.assertTrue(watch != thing)
        far, near = Watch(house), Watch(house)
        far.go(["a", "a"])
        near.go(("a", "a"))
        self.assertEqual(far, near)
        near.back()
        self.assertNotEqual(far, near)
        far.back()
        self.assertEqual(far, near)
        short = Watch(house)
        short.take("a")
        self.assertNotEqual(far, short)
        self.assertNotEqual(short, Watch(house))
        pair = built({"a": [("give",)], "b": [("give",)]})
        rows = [Watch(pair), Watch(pair)]
        rows[0].go(("a", "b"))
        rows[1].go(("b", "a"))
        self.assertEqual(rows[0].state, rows[1].state)
        self.assertNotEqual(rows[0], rows[1])
        self.assertEqual((far.choices, far.state), (short.choices, short.state))

    def test_it_copies_what_it_is_given(self):
        house, row = listed(built({"a": [("give",)] * 2, "b": [("put", "q")]})), ["a"]
        watch = Watch(house)
        watch.go(row)
        held = (watch.house, watch.choices, watch.state)
        house[0][0][2].append(["give"])
        row.append("b")
        self.assertEqual((watch.house, watch.choices, watch.state), held)
        watch.go(("a", "b"))
        self.assertEqual(watch.ready(), ())

    def test_no_call_changes_what_it_was_handed(self):
        house, row = listed(built({"a": [("give",)] * 2, "b": [("put", "q")]})), ["a", "b", "a"]
        held = listed(house)
        watch = Watch(house)
        watch.go(row)
        watch.to(1)
        with self.assertRaises(NotReady):
            watch.go(["b", "a", "a"])
        self.assertEqual((house, row), (held, ["a", "b", "a"]))
        moments(house, row), held_up(house, row), changed(house, row, 0, "b"), rest_of(house, ["a"], row)
        self.assertEqual((house, row), (held, ["a", "b", "a"]))

    def test_not_iterable_and_no_setters(self):
        watch = Watch(built({"a": [("give",)]}))
        with self.assertRaises(TypeError):
            iter(watch)
        with self.assertRaises(TypeError):
            list(watch)
        with self.assertRaises(TypeError):
            "a" in watch
        for name in ("house", "choices", "state", "ahead"):
            with self.assertRaises(AttributeError):
                setattr(watch, name, ())

    def test_by_names(self):
        watch = Watch(house=built({"a": [("give",)] * 2}))
        watch.take(task="a")
        watch.go(choices=["a"])
        watch.to(number=1)
        self.assertEqual((watch.state_at(number=2), watch.diary(task="a")), (watch.twin().state_at(2), ()))


class Errors(Refusing, unittest.TestCase):
    house = built({"a": [("give",)] * 2, "b": [("get", "q", ())]})

    def test_of_a_watch(self):
        watch = Watch(self.house)
        self.refused(NoTask, "z", watch.take, "z")
        self.refused(NotReady, "b", watch.take, "b")
        self.refused(NoTask, "z", watch.diary, "z")
        self.refused(NothingDone, None, watch.back)
        self.refused(NothingDone, None, watch.again)
        watch.go(("a", "a"))
        watch.back()
        for number in (-1, 3, 10 ** 9):
            self.refused(NoNumber, number, watch.to, number)
            self.refused(NoNumber, number, watch.state_at, number)
        self.assertEqual((watch.choices, watch.ahead), (("a",), ("a",)))

    def test_of_functions(self):
        for function in (moments, held_up):
            self.refused(NoTask, "z", function, self.house, ("b", "z"))
            self.refused(NotReady, "b", function, self.house, ["a", "b"])
        for function in (unlike_tasks, first_unlike, rest_of):
            self.refused(NoTask, "z", function, self.house, ("b", "z"), ("y",))
            self.refused(NoTask, "y", function, self.house, ("b",), ("y",))
            self.refused(NotReady, "b", function, self.house, ("b",), ("a", "a", "a"))
            self.refused(NotReady, "a", function, self.house, ("a",), ["a", "a", "a"])
        self.refused(NoTask, "z", changed, self.house, ("y", "b"), 99, "z")
        self.refused(NoTask, "y", changed, self.house, ("b", "y"), 99, "b")
        self.refused(NotReady, "b", changed, self.house, ("a", "b"), 99, "b")
        for number in (-1, 3):
            self.refused(NoNumber, number, changed, self.house, ("a", "a"), number, "b")
        self.refused(NotReady, "b", changed, self.house, ("a", "a"), 2, "b")
        self.refused(NotReady, "a", changed, self.house, ["a", "a"], 2, "a")
        self.refused(NoTask, "z", shortest_to, self.house, "z", 0)


class Along(unittest.TestCase):
    def test_moments_and_held_up(self):
        many = set()
        for number in range(200):
            house = made_house(number)
            run, play = made_run(house, number), Play(house)
            clocks = [play.clock]
            for at, task in enumerate((*run, None)):
                going = [name for name in sorted(play.status) if play.status[name] == "going" and not play.is_ready(name)]
                self.assertEqual(held_up(house, run[:at]), tuple((name, play.number[name]) for name in going))
                many.add(len(going))
                if task:
                    play.take(task)
                    clocks.append(play.clock)
            self.assertEqual(moments(house, list(run)), tuple(clocks))
        self.assertLessEqual({0, 1, 2, 3}, many)

    def test_changed(self):
        kinds = {}
        for number in range(60):
            house = made_house(number)
            run = made_run(house, number)
            for cut in (run, run[:len(run) // 2]):
                for at in range(len(cut) + 1):
                    for task in played(house, cut[:at]).ready():
                        play = played(house, cut[:at])
                        play.take(task)
                        left, is_skipped = [], False
                        for place in range(at, len(cut)):
                            if cut[place] == task and not is_skipped:
                                is_skipped = True
                            elif play.is_ready(cut[place]):
                                play.take(cut[place])
                            else:
                                left.append(place)
                        told_so = changed(house, cut, at, task)
                        self.assertEqual(told_so, (tuple(play.turns), tuple(left)))
                        self.assertEqual(changed(listed(house), list(cut), at, task), told_so)
                        key = (bool(left), is_skipped, told_so[0] == cut)
                        kinds[key] = kinds.get(key, 0) + 1
                        if cut == run and is_same_quick(house):
                            self.assertEqual(left, [])
                            self.assertEqual(after(house, told_so[0]), after(house, run))
        self.assertEqual(len(kinds), 5)
        self.assertGreater(min(kinds.values()), 5)

    def test_unlike(self):
        seen = set()
        for number in range(200):
            house = made_house(number)
            one, other = made_run(house, number), made_run(house, number + 1)
            for one, other in ((one, other), (one, one[:-1]), (one[:2], other), (one, one), ((), other[:3])):
                first, second = played(house, one), played(house, other)
                rows = zip(first.state()[1], second.state()[1])
                self.assertEqual(unlike_tasks(house, one, list(other)), tuple(row[0] for row, later in rows if row != later))
                pairs = [(name, at) for name in first.diary
                         for at in range(max(len(first.diary[name]), len(second.diary[name])))
                         if first.diary[name][at:at + 1] != second.diary[name][at:at + 1]]
                self.assertEqual(first_unlike(house, one, other), min(pairs, default=None))
                self.assertEqual(first_unlike(house, other, one), min(pairs, default=None))
                seen.add(min(pairs, default=None) and min(pairs)[1])
                if not pairs and [row[2] for row in first.state()[1]] == [row[2] for row in second.state()[1]]:
                    self.assertEqual(first.state()[2], second.state()[2])
        self.assertLessEqual({None, 0, 1, 2}, seen)

    def test_diaries_grow(self):
        for number in range(60):
            house = made_house(number)
            watch, run = Watch(house), made_run(house, number)
            for task in run:
                held = {name: watch.diary(name) for name in task_names(house)}
                watch.take(task)
                for name in held:
                    self.assertEqual(watch.diary(name)[:len(held[name])], held[name])

    def test_number_at_the_place_of_the_task_itself(self):
        for number in range(40):
            house = made_house(number)
            run = made_run(house, number)
            for at, task in enumerate(run):
                self.assertEqual(changed(house, run, at, task), (run, ()))


KNOWN = {}


def is_same_quick(house):
    """Whether a HOUSE that may be walked tells the same FOR ALL orders."""
    if house not in KNOWN:
        rows = sum(len(row[2]) for row in house[0])
        KNOWN[house] = len(house[0]) <= 4 and rows <= 12 and is_same(house)
    return KNOWN[house]


class Small(unittest.TestCase):
    def test_rest_of(self):
        seen = set()
        for house, plays, _ in walked():
            rows = [(tuple(play.turns), play.state()) for play in plays]
            picked = rows[::max(1, len(rows) // 7)]
            for one, first in picked:
                for other, second in picked + rows[-2:]:
                    rests = [run[len(one):] for run, state in rows if run[:len(one)] == one and state == second]
                    expected = min(rests, default=None)
                    self.assertEqual(rest_of(house, one, list(other)), expected)
                    seen.add(expected is None)
                    if expected is not None and len(one) + len(expected) == len(other):
                        self.assertEqual(after(house, one + expected), after(house, other))
        self.assertEqual(seen, {True, False})

    def test_rest_of_another_way(self):
        house = built({"a": [("give",)], "b": [("give",)], "c": [("give",)]})
        self.assertEqual(rest_of(house, ("c",), ("b", "a", "c")), ("a", "b"))
        self.assertEqual(rest_of(house, ("c", "a"), ("a", "c")), ())
        self.assertIsNone(rest_of(house, ("a", "b"), ("a",)))

    def test_shortest_to(self):
        seen = set()
        for house, plays, _ in walked():
            for task, _, steps in house[0]:
                for number in range(len(steps) + 2):
                    runs = [tuple(play.turns) for play in plays if play.number[task] == number]
                    expected = min(runs, key=lambda run: (len(run), run), default=None)
                    self.assertEqual(shortest_to(house, task, number), expected)
                    seen.add(expected if expected is None else len(expected))
        self.assertLessEqual({None, 0, 1, 2, 3, 4, 5}, seen)

    def test_changed_where_all_orders_tell_the_same(self):
        many = 0
        for house, _, wholes in walked():
            if not is_same(house):
                continue
            run = turns(wholes)[-1]
            for at, state in enumerate(states(house, run)):
                for task in ready(house, state):
                    other, left = changed(house, run, at, task)
                    self.assertEqual(left, ())
                    self.assertEqual(told(house, other), told(house, run))
                    many += other != run
        self.assertGreater(many, 50)

    def test_equal_diaries_equal_states(self):
        """STATES with as many STEPS and the same diaries are one, but for the clock, the signals and held."""
        for house, plays, _ in walked()[:60]:
            known = {}
            for play in plays:
                state = play.state()
                key = tuple((row[2], row[6]) for row in state[1])
                told_so = (tuple(row[:4] + row[5:] for row in state[1]), state[2])
                self.assertEqual(known.setdefault(key, told_so), told_so)

    def test_stands_of_the_example(self):
        house = built({"a": [("put", "q"), ("give",)], "b": [("get", "q", ())], "c": [("put", "q")]})
        self.assertEqual(held_up(house, ("a", "b")), ())
        self.assertEqual(stand_of(begin(house), "b")[1], "going")
        self.assertEqual(marks(house, ("a", "b")), (("a", 0), ("b", 0)))
