"""is_step, is_script and is_house [5] by what [3] says of a STEP, a SCRIPT and a HOUSE."""

import unittest

from giveways.scripts import is_house, is_script, is_step
from tests.made import built, listed, made_house

GOOD_STEPS = (
    ("give",), ("put", "q"), ("get", "q", ()), ("get", "q", 0), ("set", "s"), ("hear", "s", ()), ("hear", "s", 5),
    ("start", "b"), ("join", "b", ()), ("join", "b", 10 ** 30), ("until", 0), ("until", 10 ** 30), ("cancel", "b"),
    ("in",), ("out",), ("close", "g"), ("catch", "g"), ("fail", "w"), ("put", "abcdefgh"), ("put", "zzzzzzzz"),
)
WORDS = ("give", "put", "get", "set", "hear", "start", "join", "until", "cancel", "in", "out", "close", "catch",
         "fail")
BAD_NAMES = ("", "abcdefghi", "A", "a1", "a b", " a", "a_", "a-b", "\u00e4", "\u00aa", "\u0430", 1, None, True, (),
             ("a",), ["a"], "a" * 10 ** 6)
BAD_NUMBERS = (-1, True, False, None, "1", (1,), [1], (()), "")


def nested(depth, kind=tuple):
    told = kind()
    for _ in range(depth):
        told = kind([told])
    return told


STRANGE = (None, True, False, 0, 1, -5, 10 ** 100, "", "a", "give", "x" * 10 ** 5, [], (), [[]], ((),), nested(11),
           nested(11, list), (0,) * 10 ** 5, [()] * 10 ** 5, ("a", "b", "c"), ((), (), ()), [(), (), ()],
           (None, None, None), (nested(9), nested(9), nested(9)), ("", "", ""), (True, False, None))


class Steps(unittest.TestCase):
    def test_good_ones(self):
        for step in GOOD_STEPS:
            self.assertIs(is_step(step), True, step)

    def test_lists_are_no_tuples(self):
        for step in GOOD_STEPS:
            self.assertIs(is_step(list(step)), False, step)
        for word in ("get", "hear", "join"):
            self.assertIs(is_step((word, "q", [])), False)

    def test_too_short_and_too_long(self):
        for step in GOOD_STEPS:
            self.assertIs(is_step(step + ((),)), False, step)
            self.assertIs(is_step(step + ("q",)), False, step)
            self.assertIs(is_step(step[:-1]), False, step)
            self.assertIs(is_step(step * 30000), False)

    def test_words(self):
        for word in ("Give", "giv", "gives", "", "GET", None, 0, True, ("give",), ["give"], (), "x" * 10 ** 6):
            for rest in ((), ("q",), ("q", ())):
                self.assertIs(is_step((word,) + rest), False)

    def test_bare_words(self):
        for word in WORDS:
            self.assertIs(is_step(word), False)
            self.assertIs(is_step((word,)), word in ("give", "in", "out"), word)
            self.assertIs(is_step((word, "q")), word in (
                "put", "set", "start", "cancel", "close", "catch", "fail"), word)
            self.assertIs(is_step((word, "q", ())), word in ("get", "hear", "join"), word)
            self.assertIs(is_step((word, 3)), word == "until", word)
            self.assertIs(is_step((word, ())), False, word)

    def test_names(self):
        for step in GOOD_STEPS:
            if len(step) > 1 and step[0] != "until":
                for name in BAD_NAMES:
                    self.assertIs(is_step((step[0], name) + step[2:]), False, (step, name))
                for name in ("a", "z", "abcdefgh", "give", "in"):
                    self.assertIs(is_step((step[0], name) + step[2:]), True, (step, name))

    def test_numbers(self):
        for number in BAD_NUMBERS:
            self.assertIs(is_step(("until", number)), False, number)
            if number != ():
                for word in ("get", "hear", "join"):
                    self.assertIs(is_step((word, "q", number)), False, (word, number))

    def test_strange_things(self):
        for thing in STRANGE:
            self.assertIs(is_step(thing), False)


class Scripts(unittest.TestCase):
    def test_good_ones(self):
        good = (
            (), (("give",),), (("in",), ("out",)), (("in",), ("in",), ("out",), ("out",)),
            (("in",), ("out",), ("give",), ("in",), ("put", "q"), ("out",)),
            tuple(step for step in GOOD_STEPS if step not in (("in",), ("out",))),
            (("give",),) * 10 ** 5, (("in",),) * 10 ** 5 + (("out",),) * 10 ** 5,
        )
        for steps in good:
            self.assertIs(is_script(steps), True)

    def test_shields(self):
        bad = (
            (("in",),), (("out",),), (("out",), ("in",)), (("in",), ("in",), ("out",)), (("in",), ("out",), ("out",)),
            (("in",), ("out",), ("out",), ("in",)), (("in",),) * 10 ** 5,
        )
        for steps in bad:
            self.assertIs(is_script(steps), False)

    def test_names_that_are_words_make_no_shield(self):
        self.assertIs(is_script((("put", "in"), ("fail", "out"), ("out",))), False)
        for name in ("in", "out"):
            for word in ("put", "set", "start", "cancel", "close", "catch", "fail"):
                self.assertIs(is_script(((word, name),)), True)
                self.assertIs(is_script((("in",), (word, name))), False)
                self.assertIs(is_script((("in",), (word, name), ("out",))), True)
            for word in ("get", "hear", "join"):
                self.assertIs(is_script(((word, name, ()),)), True)
                self.assertIs(is_script((("in",), (word, name, 0))), False)

    def test_each_part_must_be_a_step(self):
        for wrong in (("put",), ["give"], "give", None, 0, True, (), ("until", True), ("give", ())):
            self.assertIs(is_script((("give",), wrong)), False, wrong)
            self.assertIs(is_script((wrong, ("give",))), False, wrong)
            self.assertIs(is_script((wrong,)), False, wrong)

    def test_lists_are_no_tuples(self):
        self.assertIs(is_script([]), False)
        self.assertIs(is_script([("give",)]), False)
        self.assertIs(is_script((["give"],)), False)

    def test_strange_things(self):
        for thing in STRANGE:
            self.assertIs(is_script(thing), thing == () and isinstance(thing, tuple))


HALL = built({"a": [("start", "b"), ("put", "q"), ("close", "g")], "b in g": [("get", "q", ())]}, {"g": "a"}, {"q": 2})
NEST = built({
    "a": [("start", "b"), ("start", "e"), ("close", "g")],
    "b in g": [("start", "c"), ("start", "d"), ("catch", "h")],
    "c in h": [], "d in h": [("give",)], "e in g": [("join", "a", ())],
}, {"g": "a", "h": "b"})


def changed(house, place, worth):
    """The HOUSE with this in the place that a row of numbers tells."""
    if not place:
        return worth
    told = list(house)
    told[place[0]] = changed(house[place[0]], place[1:], worth)
    return tuple(told)


class Houses(unittest.TestCase):
    def yes(self, *houses):
        for house in houses:
            self.assertIs(is_house(house), True, house)

    def no(self, *houses):
        for house in houses:
            self.assertIs(is_house(house), False, house)

    def test_good_ones(self):
        self.yes(HALL, NEST, built({"a": []}), built({"a": [], "b": []}), built({"abcdefgh": [("give",)]}),
                 built({"a": []}, rooms={"q": 1, "zzzzzzzz": 10 ** 40}), built({"a": [("close", "g")]}, {"g": "a"}),
                 built({"a": [("catch", "g"), ("close", "h")]}, {"g": "a", "h": "a"}))
        self.yes(*[made_house(number) for number in range(300)])

    def test_a_triple(self):
        self.no(HALL[:2], HALL + ((),), listed(HALL), list(HALL), (), HALL[0])
        for at in range(3):
            self.no(changed(HALL, (at,), list(HALL[at])), changed(HALL, (at,), None), changed(HALL, (at,), "a"))

    def test_tasks(self):
        self.no(((), (), ()))
        self.no((("a", "", ()),), (("a", "", ()), (), ()), ((("a", ""),), (), ()), ((("a", "", (), ()),), (), ()))
        self.no(((["a", "", ()],), (), ()), ((("a", "", []),), (), ()), (("abc",), (), ()))
        self.no(((("b", "", ()), ("a", "", ())), (), ()), ((("a", "", ()), ("a", "", ())), (), ()))
        self.no(((("a", "", ()), ("a", "", (("give",),))), (), ()))
        self.no(((("a", "", ()), ("c", "", ()), ("b", "", ())), (), ()))
        for name in BAD_NAMES:
            self.no(((("a", "", ()), (name, "", ())), (), ()), (((name, "", ()),), (), ()))

    def test_scripts_in_tasks(self):
        for script in ((("in",),), (("put",),), "give", None, ("give",), [("give",)], (["give"],), 0, False):
            self.no(((("a", "", script),), (), ()))

    def test_groups(self):
        for group in BAD_NAMES:
            if group != "":
                self.no(changed(HALL, (0, 1, 1), group))
            self.no(changed(HALL, (1,), ((group, "a"),)))
        self.no(changed(HALL, (1,), (("g",),)), changed(HALL, (1,), (("g", "a", ""),)))
        self.no(changed(HALL, (1,), (["g", "a"],)), changed(HALL, (1,), ("ga",)))
        two = built({"a": [("catch", "g"), ("close", "h")]}, {"g": "a", "h": "a"})
        self.yes(two)
        self.no((two[0], two[1][::-1], ()), (two[0], two[1] + two[1][1:], ()))
        self.no(changed(HALL, (1,), (("g", "a"), ("g", "b"))))

    def test_groups_of_tasks_are_there(self):
        self.no(changed(HALL, (0, 1, 1), "h"), ((("a", "g", ()),), (), ()))
        self.no(changed(HALL, (0, 1, 1), None), changed(HALL, (0, 1, 1), ()))

    def test_hosts(self):
        self.no(changed(HALL, (1,), (("g", "c"),)), changed(HALL, (1,), (("g", ""),)), changed(HALL, (1,), ()))
        for name in BAD_NAMES:
            self.no(changed(HALL, (1,), (("g", name),)))

    def test_a_host_stands_in_no_group_of_its_own(self):
        self.no(built({"a in g": [("close", "g")], "b": [("start", "a")]}, {"g": "a"}))
        self.no(built({"a in g": [("start", "b"), ("close", "h")], "b in h": [("start", "a"), ("close", "g")]},
                      {"g": "b", "h": "a"}))
        self.no(built({
            "a in i": [("start", "b"), ("close", "g")], "b in g": [("start", "c"), ("close", "h")],
            "c in h": [("start", "a"), ("close", "i")],
        }, {"g": "a", "h": "b", "i": "c"}))

    def test_rooms(self):
        self.yes(changed(HALL, (2,), (("q", 1),)), changed(HALL, (2,), (("a", 1), ("b", 2))), changed(HALL, (2,), ()))
        for room in (0, -1, True, False, None, "1", (), (1,)):
            self.no(changed(HALL, (2,), (("q", room),)))
        for queue in BAD_NAMES:
            self.no(changed(HALL, (2,), ((queue, 1),)))
        self.no(changed(HALL, (2,), (("b", 1), ("a", 2))), changed(HALL, (2,), (("a", 1), ("a", 2))))
        self.no(changed(HALL, (2,), (["q", 1],)), changed(HALL, (2,), (("q",),)), changed(HALL, (2,), (("q", 1, 1),)))
        self.no(changed(HALL, (2,), ("q",)), changed(HALL, (2,), (("a", 1), ("a", 1))))

    def test_named_tasks_are_others_of_the_tasks(self):
        for word, rest in (("start", ()), ("join", ((),)), ("join", (3,)), ("cancel", ())):
            self.yes(built({"a": [(word, "b") + rest], "b": []}))
            self.no(built({"a": [(word, "c") + rest], "b": []}), built({"a": [(word, "a") + rest], "b": []}))

    def test_named_groups_are_there(self):
        for word in ("close", "catch"):
            self.yes(built({"a": [(word, "g")]}, {"g": "a"}))
            self.no(built({"a": [(word, "g")]}), built({"a": [(word, "g"), (word, "h")]}, {"g": "a"}))

    def test_just_one_close_or_catch_by_the_host(self):
        self.no(built({"a": []}, {"g": "a"}))
        for one in ("close", "catch"):
            for other in ("close", "catch"):
                self.no(built({"a": [(one, "g"), (other, "g")]}, {"g": "a"}))
                self.no(built({"a": [(one, "g")], "b": [(other, "g")]}, {"g": "a"}))
            self.no(built({"a": [], "b": [(one, "g")]}, {"g": "a"}))
            self.no(built({"a": [(one, "g")], "b": []}, {"g": "b"}))

    def test_tasks_of_a_group_are_started_by_its_host(self):
        close, start = ("close", "g"), ("start", "b")
        self.yes(built({"a": [start, close], "b in g": []}, {"g": "a"}))
        self.yes(built({"a": [start, ("give",), close], "b in g": []}, {"g": "a"}))
        self.no(built({"a": [close], "b in g": []}, {"g": "a"}))
        self.no(built({"a": [close, start], "b in g": []}, {"g": "a"}))
        self.no(built({"a": [start, start, close], "b in g": []}, {"g": "a"}))
        self.no(built({"a": [start, close, start], "b in g": []}, {"g": "a"}))
        self.no(built({"a": [close], "b in g": [], "c": [start]}, {"g": "a"}))
        self.no(built({"a": [start, close], "b in g": [], "c": [start]}, {"g": "a"}))
        self.no(built({"a": [("start", "c"), close], "b in g": [], "c in g": [start]}, {"g": "a"}))

    def test_any_other_task_is_started_by_one_step_at_the_most(self):
        self.yes(built({"a": [("start", "b")], "b": []}))
        self.yes(built({"a": [("start", "b"), ("start", "c")], "b": [], "c": []}))
        self.no(built({"a": [("start", "b"), ("start", "b")], "b": []}))
        self.no(built({"a": [("start", "b")], "b": [], "c": [("start", "b")]}))

    def test_none_starts_itself_by_a_row_of_starts(self):
        self.yes(built({"a": [("start", "b")], "b": [("start", "c")], "c": []}))
        self.no(built({"a": [("start", "a")]}))
        self.no(built({"a": [("start", "b")], "b": [("start", "a")]}))
        self.no(built({"a": [("start", "b")], "b": [("start", "c")], "c": [("start", "a")]}))
        self.no(built({"a": [("start", "b")], "b": [("start", "a")], "c": []}))
        self.no(built({"a": [], "b": [("start", "c")], "c": [("start", "b")], "d": [("start", "a")]}))

    def test_beyond_the_bounds(self):
        names = sorted(first + second + third for first in "abcdefghijklmnop" for second in "abcdefghijklmnop"
                       for third in "abcdefghijklmnop")
        chain = {name: [("start", other)] for name, other in zip(names, names[1:])}
        self.yes(built({**chain, names[-1]: []}))
        self.no(built({**chain, names[-1]: [("start", names[0])]}))
        self.no(built({**chain, names[-1]: [("start", names[7])]}))
        nest = {names[0]: [("start", names[1]), ("close", names[0])]}
        for at in range(1, len(names) - 1):
            nest[names[at] + " in " + names[at - 1]] = [("start", names[at + 1]), ("close", names[at])]
        nest[names[-1] + " in " + names[-2]] = []
        self.yes(built(nest, {name: name for name in names[:-1]}))
        self.yes(built({"a": [("give",)] * 10 ** 4, "b": [("put", "q")]}, rooms={name: 10 ** 50 for name in names}))

    def test_strange_things(self):
        for thing in STRANGE:
            self.assertIs(is_house(thing), False)
            self.assertIs(is_house((thing, (), ())), False)
            self.assertIs(is_house(((("a", "", ()),), (), thing)), thing == () and isinstance(thing, tuple))
            self.assertIs(is_house(((("a", "", ()),), thing, ())), thing == () and isinstance(thing, tuple))
            self.assertIs(is_house(((("a", "", ()), thing), (), ())), False)

    def test_lists_within(self):
        def with_one_list(worth):
            if isinstance(worth, tuple):
                yield list(worth)
                for at, part in enumerate(worth):
                    for other in with_one_list(part):
                        yield worth[:at] + (other,) + worth[at + 1:]
        for house in (HALL, NEST):
            for other in with_one_list(house):
                self.no(other)
