"""[15] EDITS: each row of the first table at each place of many houses, there and back, and what is refused."""

import unittest

from giveways.claims import all_standing, stands
from giveways.edits import do_commute, edited, is_edit, undone_by
from giveways.errors import HouseError, Known, NoGroup, NoStep, NoTask, Unfit
from giveways.scripts import (
    group_of, host_of, is_house, script_of, starter_of, step_of, task_names, with_room, with_step, without_step,
)
from giveways.steps import CLOSING_WORDS
from tests.made import Refusing, Row, built, listed, made_house, odd_things, plain_step, small_house, spoilt

WORDS = ("in", "out", "for", "task", "gone", "group", "apart", "room")


def behind(house, edit):
    """The HOUSE behind the EDIT or the name of the error, read row by row off plain lists."""
    word, name, *rest = edit
    tasks = {row[0]: [row[1], list(row[2])] for row in house[0]}
    groups, rooms = dict(house[1]), dict(house[2])

    def steps_for(task, number, more):
        if task not in tasks:
            return "NoTask"
        return None if 0 <= number < len(tasks[task][1]) + more else "NoStep"
    wrong = None
    if word in ("in", "out", "for"):
        wrong = steps_for(name, rest[0], word == "in")
        if not wrong:
            tasks[name][1][rest[0]:rest[0] + (word != "in")] = [] if word == "out" else [rest[1]]
    elif word == "task":
        group, script, starter = rest
        wrong = [kind for kind, is_wrong in (
            ("NoTask", starter and starter[0] not in tasks), ("NoGroup", group and group not in groups),
            ("NoStep", starter and starter[0] in tasks and not 0 <= starter[1] <= len(tasks[starter[0]][1])),
            ("Known", name in tasks)) if is_wrong][:1]
        wrong = wrong[0] if wrong else None
        if not wrong:
            if starter:
                tasks[starter[0]][1].insert(starter[1], ("start", name))
            tasks[name] = [group, list(script)]
    elif word == "gone":
        wrong = None if name in tasks else "NoTask"
        tasks.pop(name, None)
        for row in tasks.values():
            row[1] = [step for step in row[1] if step != ("start", name)]
    elif word == "group":
        host, step, number = rest
        wrong = steps_for(host, number, 1) or ("Known" if name in groups else None)
        if not wrong:
            tasks[host][1].insert(number, step)
            groups[name] = host
    elif word == "apart":
        wrong = None if name in groups else "NoGroup"
        groups.pop(name, None)
        for row in tasks.values():
            row[1] = [step for step in row[1] if step not in (("close", name), ("catch", name))]
    else:
        rooms.pop(name, None)
        if rest[0]:
            rooms[name] = rest[0]
    told = (tuple(sorted((task, row[0], tuple(row[1])) for task, row in tasks.items())), tuple(sorted(groups.items())),
            tuple(sorted(rooms.items())))
    return wrong or (told if is_house(told) else "Unfit")


def edits_of(house, start):
    """EDITS of each row at each place of the HOUSE, right and wrong ones."""
    row, names = Row(start), task_names(house)
    groups = [group for group, _ in house[1]] + ["new"]
    for task in (*names, "zed"):
        steps = script_of(house, task) if task in names else ()
        for number in range(len(steps) + 2):
            step = row.one_of((plain_step(row, task, names), ("start", row.one_of(names)), ("in",), ("out",), ("join", "zed", 3),
                               ("close", row.one_of(groups)), ("give",)))
            yield ("in", task, number, step)
            yield ("out", task, number)
            yield ("for", task, number, step)
            group = row.one_of(groups)
            yield ("group", group, task, (row.one_of(CLOSING_WORDS), group), number)
            yield ("group", "new", task, ("catch", "new"), number)
            script = row.one_of(((), (("give",),), (("join", task, ()),), (("cancel", "zed"),), (("start", "ann"),)))
            yield ("task", row.one_of(names + ("zed", "new")), row.one_of(["", "", *groups]), script, (task, number))
        yield ("gone", task)
        yield ("task", row.one_of(names + ("new",)), row.one_of(["", *groups]), (("give",),), ())
        yield ("task", "new", "", (), ())
    for group in groups:
        yield ("apart", group)
    for queue in ("q", "r", "z"):
        for room in (0, 1, 5):
            yield ("room", queue, room)


def outcome(house, edit):
    try:
        return edited(house, edit)
    except HouseError as error:
        return type(error).__name__


class Table(unittest.TestCase):
    def test_each_row_there_and_back(self):
        seen = {}
        for number in range(130):
            house = made_house(number)
            for edit in edits_of(house, number):
                self.assertTrue(is_edit(edit), edit)
                expected = behind(house, edit)
                told = outcome(house, edit)
                self.assertEqual(told, expected, (house, edit))
                key = (edit[0], told if isinstance(told, str) else "done")
                seen[key] = seen.get(key, 0) + 1
                if isinstance(told, str):
                    with self.assertRaises(HouseError) as caught:
                        undone_by(house, edit)
                    self.assertEqual(type(caught.exception).__name__, told)
                    continue
                self.assertTrue(is_house(told))
                back = undone_by(house, edit)
                self.assertTrue(is_edit(back))
                self.assertEqual(edited(told, back), house, (house, edit))
                self.assertEqual(undone_by(told, back), edit if edit[0] != "gone" else ("gone", edit[1]))
        for key in (("in", "done"), ("in", "NoTask"), ("in", "NoStep"), ("in", "Unfit"), ("out", "done"), ("out", "NoTask"),
                    ("out", "NoStep"), ("out", "Unfit"), ("for", "done"), ("for", "NoTask"), ("for", "NoStep"), ("for", "Unfit"),
                    ("task", "done"), ("task", "NoTask"), ("task", "NoGroup"), ("task", "NoStep"), ("task", "Known"),
                    ("task", "Unfit"), ("gone", "done"), ("gone", "NoTask"), ("gone", "Unfit"), ("group", "done"),
                    ("group", "NoTask"), ("group", "NoStep"), ("group", "Known"), ("apart", "done"), ("apart", "NoGroup"),
                    ("apart", "Unfit"), ("room", "done")):
            self.assertGreater(seen.get(key, 0), 4, key)

    def test_which_undoes_which(self):
        pairs = {"in": "out", "out": "in", "task": "gone", "gone": "task", "group": "apart", "apart": "group", "for": "for",
                 "room": "room"}
        seen = set()
        for number in range(60):
            house = made_house(number)
            for edit in edits_of(house, number):
                if not isinstance(outcome(house, edit), str):
                    back = undone_by(listed(house), listed(edit))
                    self.assertEqual(back[0], pairs[edit[0]])
                    self.assertEqual(back[1], edit[1])
                    seen.add(edit[0])
                    if edit[0] == "gone":
                        self.assertEqual(back[2:], (group_of(house, edit[1]), script_of(house, edit[1]), starter_of(house, edit[1])))
                    if edit[0] == "apart":
                        self.assertEqual((back[2], back[3]), (host_of(house, edit[1]), step_of(house, back[2], back[4])))
        self.assertEqual(seen, set(WORDS))

    def test_the_same_as_the_functions(self):
        house = built({"a": [("put", "q"), ("give",)], "b": []})
        self.assertEqual(edited(house, ["in", "a", 2, ["hear", "s", []]]), with_step(house, "a", 2, ("hear", "s", ())))
        self.assertEqual(edited(house, ("out", "a", 0)), without_step(house, "a", 0))
        self.assertEqual(edited(house, ("room", "q", 3)), with_room(house, "q", 3))
        self.assertEqual(edited(edited(house, ("room", "q", 3)), ("room", "q", 0)), house)

    def test_a_group_made_and_taken_apart(self):
        house = built({"h": [("give",)]})
        rows = [("group", "g", "h", ("close", "g"), 1), ("task", "m", "g", (("put", "q"),), ("h", 1)), ("room", "q", 2)]
        row = [house]
        for edit in rows:
            row.append(edited(row[-1], edit))
        self.assertEqual(row[-1], built({"h": [("give",), ("start", "m"), ("close", "g")], "m in g": [("put", "q")]}, {"g": "h"}, {"q": 2}))
        for edit, one, other in reversed(list(zip(rows, row, row[1:]))):
            self.assertEqual(edited(other, undone_by(one, edit)), one)


class Refused(Refusing, unittest.TestCase):
    house = built({"a": [("start", "b"), ("put", "q"), ("close", "g")], "b in g": [("get", "q", ())], "c": [("give",)]}, {"g": "a"})

    def test_in_their_order(self):
        for function in (edited, undone_by):
            for word, rest in (("in", (("out",),)), ("out", ()), ("for", (("close", "z"),))):
                self.refused(NoTask, "z", function, self.house, (word, "z", 99, *rest))
                self.refused(NoStep, 99, function, self.house, (word, "a", 99, *rest))
            self.refused(NoStep, 4, function, self.house, ("in", "a", 4, ("give",)))
            self.refused(NoStep, 3, function, self.house, ["out", "a", 3])
            self.refused(NoStep, 3, function, self.house, ("for", "a", 3, ("give",)))
            self.refused(NoTask, "z", function, self.house, ("task", "a", "x", (), ("z", 99)))
            self.refused(NoGroup, "x", function, self.house, ("task", "a", "x", (), ("a", 99)))
            self.refused(NoStep, 99, function, self.house, ("task", "a", "g", (), ("a", 99)))
            self.refused(Known, "a", function, self.house, ("task", "a", "g", (("start", "z"),), ("a", 3)))
            self.refused(NoGroup, "x", function, self.house, ["task", "a", "x", [], []])
            self.refused(Unfit, None, function, self.house, ("task", "n", "g", (), ()))
            self.refused(Unfit, None, function, self.house, ("task", "n", "g", (), ("a", 3)))
            self.refused(Unfit, None, function, self.house, ("task", "n", "g", (), ("c", 0)))
            self.refused(Unfit, None, function, self.house, ("task", "n", "", (("cancel", "z"),), ()))
            self.refused(NoTask, "z", function, self.house, ("gone", "z"))
            self.refused(Unfit, None, function, self.house, ("gone", "a"))
            self.refused(NoTask, "z", function, self.house, ("group", "g", "z", ("close", "g"), 99))
            self.refused(NoStep, 99, function, self.house, ("group", "g", "a", ("close", "g"), 99))
            self.refused(Known, "g", function, self.house, ("group", "g", "a", ("close", "g"), 0))
            self.refused(NoGroup, "x", function, self.house, ("apart", "x"))
            self.refused(Unfit, None, function, self.house, ("apart", "g"))
            self.refused(Unfit, None, function, built({"a": []}), ("gone", "a"))

    def test_fit_ones(self):
        self.assertEqual(edited(self.house, ("task", "n", "g", (), ("a", 2)))[0][0][2][2], ("start", "n"))
        self.assertEqual(edited(self.house, ("gone", "b"))[0][0][2], (("put", "q"), ("close", "g")))
        self.assertEqual(edited(self.house, ("gone", "c"))[0], self.house[0][:2])
        self.assertEqual(edited(edited(self.house, ("gone", "b")), ("apart", "g"))[0][0][2], (("put", "q"),))
        self.assertEqual(edited(self.house, ("room", "new", 10 ** 6))[2], (("new", 10 ** 6),))


class Forms(unittest.TestCase):
    RIGHT = (("in", "a", 0, ("give",)), ("out", "b", 7), ("for", "a", 3, ("get", "q", ())), ("task", "a", "", (), ()),
             ("task", "a", "g", (("in",), ("out",)), ("b", 0)), ("gone", "abcdefgh"), ("group", "g", "a", ("close", "g"), 2),
             ("group", "g", "a", ("catch", "g"), 0), ("apart", "g"), ("room", "q", 0), ("room", "q", 10 ** 30),
             ("task", "a", "g", (("put", "q"),) * 500, ("a", 10 ** 20)))
    WRONG = (("in", "a", 0), ("in", "a", -1, ("give",)), ("in", "a", 0, ("put",)), ("in", "A", 0, ("give",)), ("out", "", 0),
             ("out", "b", True), ("out", "b", 0, 0), ("for", "a", 3, ["give"]), ("task", "a", "", (("in",),), ()), ("task", "", "", (), ()),
             ("task", "a", "g", (), ("b",)), ("task", "a", "g", (), ("b", -1)), ("task", "a", "g", (), ("", 0)), ("task", "a", "g", (), None),
             ("task", "a", "g", (), ("b", False)), ("task", "a", None, (), ()), ("task", "a", "g", [], ()), ("gone", "abcdefghi"),
             ("group", "g", "a", ("close", "h"), 2), ("group", "g", "a", ("give",), 2), ("group", "g", "", ("close", "g"), 2),
             ("group", "", "a", ("close", ""), 2), ("group", "g", "a", 2, ("close", "g")), ("group", "g", "a", ("put", "g"), 2),
             ("apart", ""), ("apart",), ("room", "q", -1), ("room", "q", "1"), ("room", "q", None), ("same",), ("cancel", "a"), (("in",),),
             (), ("",), ("task", "a", "", (), [])) + tuple(list(edit) for edit in RIGHT)

    def test_right_and_wrong(self):
        for thing in self.RIGHT:
            self.assertIs(is_edit(thing), True, thing)
        for thing in self.WRONG:
            self.assertIs(is_edit(thing), False, thing)
        for thing in odd_things():
            self.assertIs(is_edit(thing), False, thing)

    def form(self, thing):
        """Whether thing has the form of an EDIT, by trying it on houses that have what it names."""
        from giveways.scripts import is_script, is_step
        from giveways.shapes import is_name

        def number(part):
            return type(part) is int and part >= 0

        def mark(part):
            return part == () and type(part) is tuple or type(part) is tuple and len(part) == 2 and is_name(part[0]) and number(part[1])
        if type(thing) is not tuple or not thing or type(thing[0]) is not str:
            return False
        word, *parts = thing
        tests = {"in": (is_name, number, is_step), "out": (is_name, number), "for": (is_name, number, is_step),
                 "task": (is_name, lambda part: part == "" or is_name(part), is_script, mark), "gone": (is_name,),
                 "group": (is_name, is_name, lambda part: part in (("close", parts[0]), ("catch", parts[0])) and is_step(part), number),
                 "apart": (is_name,), "room": (is_name, number)}.get(word)
        return tests is not None and len(tests) == len(parts) and all(test(part) for test, part in zip(tests, parts))

    def test_one_thing_changed(self):
        many = {True: 0, False: 0}
        for thing in self.RIGHT[:-1]:
            for other in spoilt(thing):
                told = is_edit(other)
                self.assertIs(told, self.form(other), other)
                many[told] += 1
        self.assertGreater(many[False], 300)
        self.assertGreater(many[True], 20)


class Commute(unittest.TestCase):
    def test_against_both_orders(self):
        seen = {}
        for number in range(120):
            house, row = made_house(number), Row(number)
            edits = [edit for edit in edits_of(house, number) if row.below(4) == 0]
            for one in edits[:12]:
                other = row.one_of(edits)
                ways = []
                for first, second in ((one, other), (other, one)):
                    between = behind(house, first)
                    ways.append("refused" if isinstance(between, str) else behind(between, second))
                expected = not any(isinstance(way, str) for way in ways) and ways[0] == ways[1]
                self.assertIs(do_commute(house, one, other), expected)
                self.assertIs(do_commute(listed(house), listed(other), listed(one)), expected)
                key = (expected, [isinstance(way, str) for way in ways].count(True))
                seen[key] = seen.get(key, 0) + 1
        self.assertLessEqual({(True, 0), (False, 0), (False, 1), (False, 2)}, set(seen))

    def test_some(self):
        house = built({"a": [("give",), ("put", "q")], "b": []})
        self.assertTrue(do_commute(house, ("out", "a", 0), ("room", "q", 2)))
        self.assertFalse(do_commute(house, ("out", "a", 0), ("out", "a", 1)))
        self.assertTrue(do_commute(built({"a": [("give",), ("give",)]}), ("out", "a", 0), ("out", "a", 0)))
        self.assertFalse(do_commute(house, ("room", "q", 1), ("room", "q", 2)))
        self.assertFalse(do_commute(house, ("gone", "b"), ("gone", "a")))
        self.assertFalse(do_commute(house, ("gone", "b"), ("gone", "b")))
        self.assertFalse(do_commute(house, ("gone", "z"), ("room", "q", 2)))


class Gives(unittest.TestCase):
    def test_a_give_put_in_leaves_what_stands(self):
        """Where no STEP is a cancel or a fail, a give put in ahead of a STEP."""
        many = 0
        for number in range(150):
            house = small_house(number)
            if any(step[0] in ("cancel", "fail") for row in house[0] for step in row[2]):
                continue
            old = [claim for claim in all_standing(house) if claim[0] in ("ends", "waits", "clock")]
            for task, _, steps in house[0]:
                for at in range(len(steps)):
                    other = edited(house, ("in", task, at, ("give",)))
                    new = [claim for claim in all_standing(other) if claim[0] in ("ends", "waits", "clock")]
                    self.assertEqual(new, old)
                    self.assertIs(stands(house, ("same",)), stands(other, ("same",)))
                    many += 1
        self.assertGreater(many, 50)
