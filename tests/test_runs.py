"""Each function that the interface lists under giveways/houses.py [4]."""

import unittest

from giveways import houses
from giveways.errors import NoTask, NotReady, NotWhole
from tests.made import built, listed, stands

HOUSE = built({"ann": [("put", "q"), ("set", "s")], "bob": [("get", "q", ())], "cy": [("hear", "s", 2)],
               "dan": [("start", "eve")], "eve": [("give",)]}, rooms={"q": 1})
WHOLE = ("ann", "bob", "dan", "ann", "eve", "cy")
STRANGE = (None, True, 0, 7, "", "ann", "a", [], ["ann"], [["ann"]], ("zed",), (0,), (True,), (None,), (("ann",),),
           (["ann"],), ("ann", ()), (("ann", "bob"),), ("ann",) * 10 ** 5, ("x" * 10 ** 5,), ((((((),),),),),),
           ("ann", 1), ("ann", None), ("ANN",))


class States(unittest.TestCase):
    def test_begin(self):
        self.assertEqual(houses.begin(HOUSE), (0, (
            ("ann", "going", 0, (), (), (), ()), ("bob", "going", 0, (), (), (), ()), ("cy", "going", 0, (), (), (), ()),
            ("dan", "going", 0, (), (), (), ()), ("eve", "idle", 0, (), (), (), ()),
        ), (("q", (), 0),), (("s", ()),)))

    def test_states_and_after(self):
        told = houses.states(HOUSE, WHOLE)
        self.assertIsInstance(told, list)
        self.assertEqual(len(told), len(WHOLE) + 1)
        self.assertEqual(told[0], houses.begin(HOUSE))
        for at, task in enumerate(WHOLE):
            self.assertEqual(houses.turn(HOUSE, told[at], task), told[at + 1])
            self.assertEqual(houses.after(HOUSE, WHOLE[:at]), told[at])
        self.assertEqual(houses.states(HOUSE, ()), [houses.begin(HOUSE)])
        self.assertEqual(houses.told(HOUSE, WHOLE), told[-1])

    def test_each_list_is_new(self):
        first, second = houses.states(HOUSE, WHOLE), houses.states(HOUSE, WHOLE)
        self.assertEqual(first, second)
        first.clear()
        self.assertEqual(len(second), len(WHOLE) + 1)
        self.assertEqual(houses.states(HOUSE, WHOLE), second)

    def test_ready_and_done(self):
        self.assertEqual(houses.ready(HOUSE, houses.begin(HOUSE)), ("ann", "dan"))
        self.assertIs(houses.is_done(HOUSE, houses.begin(HOUSE)), False)
        self.assertEqual(houses.ready(HOUSE, houses.after(HOUSE, WHOLE)), ())
        self.assertIs(houses.is_done(HOUSE, houses.after(HOUSE, WHOLE)), True)

    def test_next_step(self):
        house = built({"a": [("start", "d"), ("give",)], "b": [("fail", "w"), ("give",)], "c": [], "d": [],
                       "e": [("give",), ("set", "s")], "f": [("start", "g"), ("cancel", "e")], "g": [("until", 3)],
                       "h": [("start", "i"), ("give",)], "i": [("give",), ("give",)]})
        begun, later = houses.begin(house), houses.after(house, ("a", "b", "e", "f", "f", "h", "i"))
        told = {name: (houses.next_step(house, begun, name), houses.next_step(house, later, name)) for name in "abcdefghi"}
        give = ("give",)
        self.assertEqual(told, {
            "a": (("start", "d"), give), "b": (("fail", "w"), None), "c": (None, None), "d": (None, None),
            "e": (give, None), "f": (("start", "g"), None), "g": (("until", 3), ("until", 3)),
            "h": (("start", "i"), give), "i": (give, give),
        })

    def test_parts_of_a_state(self):
        house = built({"a": [("put", "q"), ("give",)], "b": [("fail", "w")], "c": [("start", "e"), ("cancel", "d")],
                       "d": [("give",)], "e": [("give",)], "f": [("get", "q", ())], "g": [("start", "h")], "h": []})
        state = houses.after(house, ("a", "b", "c", "c", "f"))
        for row in state[1]:
            self.assertEqual(houses.stand_of(state, row[0]), row)
            self.assertEqual(houses.diary_of(state, row[0]), row[6])
            self.assertEqual(houses.is_over(state, row[0]), row[0] in "bcdf")
            self.assertIs(type(houses.is_over(state, row[0])), bool)
        self.assertEqual(houses.diary_of(state, "f"), (("got", ("a", 0)),))
        self.assertEqual(houses.left_over(state), ("a", "e", "g"))
        self.assertEqual(houses.stand_of(listed(state), "f"), ("f", "ended", 1, (), (), (), (("got", ("a", 0)),)))
        self.assertEqual(houses.left_over(houses.begin(built({"a": []}))), ())


class Things(unittest.TestCase):
    def test_is_run_and_is_whole(self):
        for many in range(len(WHOLE) + 1):
            self.assertIs(houses.is_run(HOUSE, WHOLE[:many]), True)
            self.assertIs(houses.is_whole(HOUSE, WHOLE[:many]), many == len(WHOLE))
        for thing in (("bob",), ("ann", "ann", "ann"), ("eve",), WHOLE + ("ann",), WHOLE + ("zed",), ("zed",) + WHOLE):
            self.assertIs(houses.is_run(HOUSE, thing), False)
            self.assertIs(houses.is_whole(HOUSE, thing), False)

    def test_no_turns(self):
        self.assertIs(houses.is_run(HOUSE, ()), True)
        self.assertIs(houses.is_whole(HOUSE, ()), False)
        done = built({"a": []})
        self.assertIs(houses.is_whole(done, ()), True)
        self.assertIs(houses.is_whole(done, []), False)

    def test_strange_things(self):
        for thing in STRANGE + (list(WHOLE), WHOLE[:3] + (["ann"],), "".join(WHOLE), (WHOLE,)):
            self.assertIs(houses.is_run(HOUSE, thing), False, thing)
            self.assertIs(houses.is_whole(HOUSE, thing), False, thing)

    def test_names_of_one_letter_are_no_tuple(self):
        house = built({"a": [("give",)]})
        self.assertIs(houses.is_run(house, "a"), False)
        self.assertIs(houses.is_run(house, ("a",)), True)


class Turns(unittest.TestCase):
    def test_marks_and_places(self):
        self.assertEqual(houses.marks(HOUSE, WHOLE), (
            ("ann", 0), ("bob", 0), ("dan", 0), ("ann", 1), ("eve", 0), ("cy", 0)))
        self.assertEqual(houses.marks(HOUSE, ()), ())
        self.assertEqual(houses.places_of(HOUSE, WHOLE, "ann"), (0, 3))
        self.assertEqual(houses.places_of(HOUSE, WHOLE[:1], "eve"), ())
        self.assertEqual(houses.places_of(HOUSE, WHOLE, "cy"), (5,))

    def test_own_run(self):
        give = [("give",)]
        self.assertEqual(houses.own_run(built({"a": give * 3, "b": give, "c": give * 2})), ("a", "b", "c", "a", "c", "a"))
        house = built({"a": [("start", "c"), ("give",)], "b": [("give",), ("start", "d")], "c": give * 2, "d": give})
        self.assertEqual(houses.own_run(house), ("a", "b", "a", "c", "b", "c", "d"))
        self.assertEqual(houses.own_run(built({"a": []})), ())

    def test_a_task_that_is_not_ready_keeps_its_place_in_the_row(self):
        house = built({"a": [("hear", "s", ()), ("give",)], "b": [("give",), ("set", "s"), ("give",)],
                       "c": [("give",), ("give",)]})
        self.assertEqual(houses.own_run(house), ("b", "c", "b", "a", "c", "b", "a"))

    def test_own_run_goes_on_behind_a_moment(self):
        self.assertEqual(houses.own_run(built({"a": [("until", 3), ("give",)], "b": [("get", "q", 2)]})), ("b", "a", "a"))

    def test_run_by(self):
        self.assertEqual(houses.run_by(HOUSE, ("eve", "dan", "cy", "bob", "ann")), ("dan", "eve", "ann", "bob", "ann", "cy"))
        self.assertEqual(houses.run_by(HOUSE, ("cy", "ann", "dan", "eve", "bob")), ("ann", "ann", "cy", "dan", "eve", "bob"))
        self.assertEqual(houses.run_by(HOUSE, ["cy", "ann", "dan", "eve", "bob"]), ("ann", "ann", "cy", "dan", "eve", "bob"))
        self.assertEqual(houses.run_by(built({"a": []}), ("a",)), ())

    def test_gone_on(self):
        self.assertEqual(houses.gone_on(HOUSE, ()), ("ann", "ann", "bob", "cy", "dan", "eve"))
        self.assertEqual(houses.gone_on(HOUSE, ("dan",)), ("dan", "ann", "ann", "bob", "cy", "eve"))
        self.assertEqual(houses.gone_on(HOUSE, WHOLE), WHOLE)
        self.assertEqual(houses.gone_on(HOUSE, list(WHOLE[:2])), ("ann", "bob", "ann", "cy", "dan", "eve"))

    def test_rounds(self):
        self.assertEqual(houses.rounds(HOUSE), (("ann", "dan"), ("ann", "bob", "eve"), ("cy",)))
        self.assertEqual(houses.rounds(built({"a": []})), ())
        house = built({"a": [("get", "q", ()), ("give",)], "b": [("get", "q", ())], "c": [("put", "q"), ("put", "q")]})
        self.assertEqual(houses.rounds(house), (("c",), ("a", "c"), ("a", "b")))

    def test_a_round_leaves_out_who_is_not_ready_any_more(self):
        lock = built({"a": [("put", "q"), ("get", "q", ())], "b": [("put", "q"), ("get", "q", ())]}, rooms={"q": 1})
        self.assertEqual(houses.rounds(lock), (("a",), ("a",), ("b",), ("b",)))
        house = built({"a": [("cancel", "b"), ("give",)], "b": [("give",)], "c": [("give",)]})
        self.assertEqual(houses.rounds(house), (("a", "c"), ("a",)))


class Waits(unittest.TestCase):
    def test_turns_of_others_while_one_is_ready(self):
        give = [("give",)]
        house = built({"a": give * 3, "b": give * 3})
        self.assertEqual(houses.longest_wait(house, ("a", "a", "b", "a", "b", "b")), 2)
        self.assertEqual(houses.longest_wait(house, ("a", "a", "a", "b", "b", "b")), 3)
        self.assertEqual(houses.longest_wait(house, ("a", "b", "a", "b", "a", "b")), 1)
        self.assertEqual(houses.longest_wait(house, ()), 0)
        self.assertEqual(houses.who_waits(house, ("a", "a", "b", "a", "b", "b"), 1), ("b",))
        self.assertEqual(houses.who_waits(house, ("a", "a", "b", "a", "b", "b"), 0), ("a", "b"))
        self.assertEqual(houses.who_waits(house, ("a", "a", "b", "a", "b", "b"), 2), ())

    def test_a_wait_that_is_not_ended(self):
        house = built({"a": [("give",)] * 3, "b": [("give",)]})
        self.assertEqual(houses.longest_wait(house, ("a", "a", "a")), 3)
        self.assertEqual(houses.who_waits(house, ("a", "a"), 1), ("b",))

    def test_only_turns_while_it_is_ready(self):
        house = built({"a": [("give",), ("give",), ("set", "s"), ("give",)], "b": [("hear", "s", ())]})
        self.assertEqual(houses.longest_wait(house, ("a", "a", "a", "a", "b")), 1)
        self.assertEqual(houses.longest_wait(house, ("a", "a", "a")), 0)

    def test_who_is_not_ready_in_between_begins_anew(self):
        house = built({"a": [("put", "q"), ("get", "q", ()), ("put", "q"), ("give",)], "b": [("get", "q", ())]})
        self.assertEqual(houses.longest_wait(house, ("a", "a", "a", "a", "b")), 1)
        self.assertEqual(houses.who_waits(house, ("a", "a", "a", "a", "b"), 0), ("b",))

    def test_is_fair(self):
        house = built({"a": [("give",)] * 3, "b": [("give",)]})
        self.assertEqual([houses.is_fair(house, ("a", "a", "b"), many) for many in (0, 1, 2, 10 ** 9)],
                         [False, False, True, True])
        self.assertIs(houses.is_fair(house, (), 0), True)


class Errors(unittest.TestCase):
    def raises(self, error, name, call, *args):
        with self.assertRaises(error) as caught:
            call(*args)
        self.assertIs(type(caught.exception), error)
        if name is not None:
            self.assertEqual(caught.exception.name, name)

    def with_choices(self):
        return {
            "after": lambda choices: houses.after(HOUSE, choices),
            "states": lambda choices: houses.states(HOUSE, choices),
            "told": lambda choices: houses.told(HOUSE, choices),
            "marks": lambda choices: houses.marks(HOUSE, choices),
            "places_of": lambda choices: houses.places_of(HOUSE, choices, "ann"),
            "gone_on": lambda choices: houses.gone_on(HOUSE, choices),
            "longest_wait": lambda choices: houses.longest_wait(HOUSE, choices),
            "who_waits": lambda choices: houses.who_waits(HOUSE, choices, 0),
            "is_fair": lambda choices: houses.is_fair(HOUSE, choices, 0),
        }

    def test_no_task_ahead_of_not_ready(self):
        for call in self.with_choices().values():
            self.raises(NoTask, "zed", call, ("bob", "zed", "yan"))
            self.raises(NoTask, "", call, ("ann", "", "zed"))
            self.raises(NoTask, "ANN", call, WHOLE + ("ann", "ANN"))
            self.raises(NoTask, "q", call, ["q"])

    def test_the_first_that_is_not_ready(self):
        for call in self.with_choices().values():
            self.raises(NotReady, "bob", call, ("bob", "cy"))
            self.raises(NotReady, "cy", call, ("ann", "cy", "eve"))
            self.raises(NotReady, "ann", call, WHOLE + ("ann",))
            self.raises(NotReady, "eve", call, ["eve", "dan"])
            self.raises(NotReady, "bob", call, ("ann", "bob", "bob"))

    def test_not_whole_last(self):
        for many in range(len(WHOLE)):
            self.raises(NotWhole, None, houses.told, HOUSE, WHOLE[:many])
        self.raises(NotReady, "eve", houses.told, HOUSE, ("eve",))
        self.raises(NoTask, "zed", houses.told, HOUSE, ("zed",))

    def test_places_of_refuses_its_task_first(self):
        self.raises(NoTask, "yan", houses.places_of, HOUSE, ("zed", "bob"), "yan")
        self.raises(NoTask, "yan", houses.places_of, HOUSE, ("bob",), "yan")
        self.raises(NoTask, "zed", houses.places_of, HOUSE, ("bob", "zed"), "ann")
        self.raises(NotReady, "bob", houses.places_of, HOUSE, ("bob",), "ann")

    def test_functions_with_a_task(self):
        state = houses.begin(HOUSE)
        for name in ("zed", "", "q", "ANN"):
            self.raises(NoTask, name, houses.turn, HOUSE, state, name)
            self.raises(NoTask, name, houses.next_step, HOUSE, state, name)
            for call in (houses.stand_of, houses.diary_of, houses.is_over):
                self.raises(NoTask, name, call, state, name)

    def test_turn_of_who_is_not_ready(self):
        state = houses.begin(HOUSE)
        for name in ("bob", "cy", "eve"):
            self.raises(NotReady, name, houses.turn, HOUSE, state, name)
        self.raises(NotReady, "ann", houses.turn, HOUSE, houses.after(HOUSE, WHOLE), "ann")

    def test_things_raise_nothing(self):
        for thing in STRANGE:
            houses.is_run(HOUSE, thing)
            houses.is_whole(HOUSE, thing)

    def test_stands_helper_reads_the_rows(self):
        self.assertEqual(stands(houses.begin(HOUSE))["eve"]["status"], "idle")
