"""Who is asked to stop, who is held, who fails [4]."""

import unittest

from giveways.houses import after, ready
from tests.made import built, stands


class Stops(unittest.TestCase):
    def rows(self, house, choices, *parts):
        told = stands(after(house, choices))
        return {name: tuple(told[name][part] for part in parts) for name in told}


class Cancelled(Stops):
    def test_idle_and_over_tasks_are_not_asked(self):
        house = built({"a": [("cancel", "b"), ("start", "b"), ("cancel", "c"), ("cancel", "d"), ("cancel", "b")],
                       "b": [("give",), ("give",)], "c": [], "d": [("fail", "w")]})
        told = self.rows(house, ("d", "a", "a", "a", "a"), "status", "number", "by", "held", "words", "diary")
        self.assertEqual(told["b"], ("going", 0, ("a", 1), (), (), ()))
        self.assertEqual(told["c"], ("ended", 0, (), (), (), ()))
        self.assertEqual(told["d"], ("failed", 1, (), (), ("w",), ()))
        told = self.rows(house, ("d", "a", "a", "a", "a", "b", "a"), "status", "number", "diary")
        self.assertEqual(told["b"], ("stopped", 1, (("stopped", ("a", 4)),)))

    def test_over_within_a_shield_is_not_held(self):
        house = built({"a": [("cancel", "b")], "b": [("in",), ("fail", "w"), ("out",)]})
        told = self.rows(house, ("b", "b", "a"), "status", "held")
        self.assertEqual(told["b"], ("failed", ()))

    def test_stopped_twice_is_stopped_once(self):
        house = built({"a": [("cancel", "c")], "b": [("cancel", "c")], "c": [("give",)]})
        told = self.rows(house, ("b", "a"), "status", "diary")
        self.assertEqual(told["c"], ("stopped", (("stopped", ("b", 0)),)))

    def test_a_waiting_task_is_stopped(self):
        house = built({"a": [("cancel", "b"), ("cancel", "c")], "b": [("hear", "s", ())], "c": [("get", "q", 3)]})
        told = self.rows(house, ("a", "a"), "status", "number", "diary")
        self.assertEqual(told["b"], ("stopped", 0, (("stopped", ("a", 0)),)))
        self.assertEqual(told["c"], ("stopped", 0, (("stopped", ("a", 1)),)))
        self.assertEqual(after(house, ("a", "a"))[0], 0)


class Shielded(Stops):
    house = built({"a": [("cancel", "b"), ("cancel", "b")], "b": [("in",), ("put", "q"), ("out",), ("put", "q")]})

    def test_ahead_of_within_and_behind(self):
        for many, status, held in ((0, "stopped", ()), (1, "going", ("a", 0)), (2, "going", ("a", 0)),
                                   (3, "stopped", ())):
            told = self.rows(self.house, ("b",) * many + ("a",), "status", "number", "held")
            self.assertEqual(told["b"], (status, many, held))

    def test_the_first_one_holds(self):
        house = built({"a": [("cancel", "c")], "b": [("cancel", "c")], "c": [("in",), ("give",), ("out",)]})
        self.assertEqual(self.rows(house, ("c", "b", "a"), "held")["c"], (("b", 0),))
        self.assertEqual(self.rows(house, ("c", "a", "b"), "held")["c"], (("a", 0),))

    def test_stopped_by_its_own_out(self):
        told = self.rows(self.house, ("b", "a", "b", "a", "b"), "status", "number", "held", "diary")
        self.assertEqual(told["b"], ("stopped", 3, ("a", 0), (("put", 0), ("stopped", ("a", 0)))))

    def test_an_out_as_the_last_step_stops_rather_than_ends(self):
        house = built({"a": [("cancel", "b")], "b": [("in",), ("out",)]})
        self.assertEqual(self.rows(house, ("b", "a", "b"), "status", "number", "held")["b"], ("stopped", 2, ("a", 0)))
        self.assertEqual(self.rows(house, ("b", "b", "a"), "status", "number", "held")["b"], ("ended", 2, ()))

    def test_only_the_outer_out_stops(self):
        house = built({"a": [("cancel", "b")], "b": [("in",), ("in",), ("out",), ("give",), ("out",), ("give",)]})
        for ahead in (1, 2, 3, 4):
            choices = ("b",) * ahead + ("a",)
            while len(choices) < 6:
                self.assertEqual(self.rows(house, choices, "status", "held")["b"], ("going", ("a", 0)))
                choices += ("b",)
            told = self.rows(house, choices, "status", "number", "diary")["b"]
            self.assertEqual(told, ("stopped", 5, (("stopped", ("a", 0)),)))

    def test_between_two_shields(self):
        house = built({"a": [("cancel", "b")], "b": [("in",), ("out",), ("in",), ("out",)]})
        self.assertEqual(self.rows(house, ("b", "b", "a"), "status", "held")["b"], ("stopped", ()))
        self.assertEqual(self.rows(house, ("b", "b", "b", "a"), "status", "held")["b"], ("going", ("a", 0)))

    def test_held_stays_when_it_fails(self):
        house = built({"a": [("cancel", "b")], "b": [("in",), ("fail", "w"), ("out",)]})
        told = self.rows(house, ("b", "a", "b"), "status", "held", "words", "diary")
        self.assertEqual(told["b"], ("failed", ("a", 0), ("w",), ()))

    def test_held_and_waiting_for_ever(self):
        house = built({"a": [("cancel", "b")], "b": [("in",), ("hear", "s", ()), ("out",)]})
        state = after(house, ("b", "a"))
        self.assertEqual(ready(house, state), ())
        self.assertEqual(stands(state)["b"]["status"], "going")


class Hosts(Stops):
    nest = {
        "a": [("start", "b"), ("start", "f"), ("close", "g")],
        "b in g": [("start", "c"), ("start", "d"), ("start", "e"), ("catch", "h"), ("catch", "i")],
        "c in i": [("give",)], "d in h": [("in",), ("give",), ("out",)], "e in i": [("give",)],
        "f in g": [("give",)],
    }
    groups = {"g": "a", "h": "b", "i": "b"}

    def test_whom_it_hosts_is_asked_by_the_same_mark(self):
        house = built({**self.nest, "z": [("cancel", "a")]}, self.groups)
        told = self.rows(house, ("a", "b", "b", "a", "d", "z"), "status", "held", "diary")
        stopped = ("stopped", (), (("stopped", ("z", 0)),))
        self.assertEqual(told, {"a": stopped, "b": stopped, "c": stopped, "d": ("going", ("z", 0), ()),
                                "e": ("idle", (), ()), "f": stopped, "z": ("ended", (), ())})

    def test_what_was_held_stops_by_its_own_out(self):
        house = built({**self.nest, "z": [("cancel", "a")]}, self.groups)
        told = self.rows(house, ("a", "b", "b", "a", "d", "z", "d", "d"), "status", "number", "diary")
        self.assertEqual(told["d"], ("stopped", 3, (("stopped", ("z", 0)),)))

    def test_who_is_hosted_by_a_held_one_goes_on(self):
        house = built({"a": [("in",), ("start", "b"), ("catch", "g"), ("out",)], "b in g": [("give",)],
                       "z": [("cancel", "a")]}, {"g": "a"})
        told = self.rows(house, ("a", "a", "z"), "status", "held")
        self.assertEqual((told["a"], told["b"]), (("going", ("z", 0)), ("going", ())))
        told = self.rows(house, ("a", "a", "z", "b", "a", "a"), "status", "number", "held", "diary")
        self.assertEqual(told["a"], ("stopped", 4, ("z", 0), (("closed", ()), ("stopped", ("z", 0)))))
        self.assertEqual(told["b"], ("ended", 1, (), ()))

    def test_an_out_asks_whom_it_hosts(self):
        house = built({"a": [("in",), ("start", "b"), ("out",), ("catch", "g")], "b in g": [("give",)],
                       "z": [("give",), ("cancel", "a")]}, {"g": "a"})
        told = self.rows(house, ("a", "a", "z", "z", "a"), "status", "number", "diary")
        self.assertEqual(told["a"], ("stopped", 3, (("stopped", ("z", 1)),)))
        self.assertEqual(told["b"], ("stopped", 0, (("stopped", ("z", 1)),)))

    def test_an_over_host_asks_nobody(self):
        house = built({"a": [("start", "b"), ("cancel", "z"), ("catch", "g")], "b in g": [("give",)],
                       "z": [("cancel", "b"), ("cancel", "a")]}, {"g": "a"})
        told = self.rows(house, ("a", "a"), "status")
        self.assertEqual((told["z"], told["b"]), (("stopped",), ("going",)))

    def test_idle_tasks_of_the_group_stay_idle(self):
        house = built({"a": [("give",), ("start", "b"), ("catch", "g")], "b in g": [("give",)], "z": [("cancel", "a")]},
                      {"g": "a"})
        told = self.rows(house, ("z",), "status", "held", "diary")
        self.assertEqual(told["b"], ("idle", (), ()))

    def test_in_its_own_turn(self):
        house = built({"a": [("start", "b"), ("start", "c"), ("catch", "g")],
                       "b in g": [("give",), ("cancel", "a")], "c in g": [("cancel", "a"), ("put", "q")]}, {"g": "a"})
        told = self.rows(house, ("a", "b", "a", "b"), "status", "number", "diary")
        by_b = (("stopped", ("b", 1)),)
        self.assertEqual(told, {"a": ("stopped", 2, by_b), "b": ("stopped", 2, by_b), "c": ("stopped", 0, by_b)})
        told = self.rows(house, ("a", "a", "c"), "status", "number", "diary")
        self.assertEqual(told["c"], ("stopped", 1, (("stopped", ("c", 0)),)))

    def test_in_its_own_turn_within_a_shield(self):
        house = built({"a": [("start", "b"), ("catch", "g")], "b in g": [("in",), ("cancel", "a"), ("give",), ("out",)]},
                      {"g": "a"})
        told = self.rows(house, ("a", "b", "b"), "status", "number", "held")
        self.assertEqual(told["b"], ("going", 2, ("b", 1)))
        told = self.rows(house, ("a", "b", "b", "b", "b"), "status", "number", "held", "diary")
        self.assertEqual(told["b"], ("stopped", 4, ("b", 1), (("stopped", ("b", 1)),)))


class Fails(Stops):
    def test_mates_and_whom_it_hosts_are_asked(self):
        house = built({
            "a": [("start", "b"), ("start", "c"), ("start", "d"), ("catch", "g")],
            "b in g": [("give",)], "c in g": [("start", "e"), ("fail", "w"), ("catch", "h")],
            "d in g": [("start", "f"), ("give",), ("catch", "i")], "e in h": [("give",)],
            "f in i": [("in",), ("give",), ("out",)],
        }, {"g": "a", "h": "c", "i": "d"})
        told = self.rows(house, ("a", "a", "a", "c", "d", "f", "c"), "status", "number", "held", "words", "diary")
        by_c = (("stopped", ("c", 1)),)
        self.assertEqual(told, {
            "a": ("going", 3, (), (), ()), "b": ("stopped", 0, (), (), by_c), "c": ("failed", 2, (), ("w",), ()),
            "d": ("stopped", 1, (), (), by_c), "e": ("stopped", 0, (), (), by_c),
            "f": ("going", 1, ("c", 1), (), ()),
        })

    def test_a_shielded_mate_is_held(self):
        house = built({"a": [("start", "b"), ("start", "c"), ("catch", "g")], "b in g": [("fail", "x")],
                       "c in g": [("in",), ("fail", "y"), ("out",)]}, {"g": "a"})
        told = self.rows(house, ("a", "a", "c", "b", "c", "a"), "status", "held", "words", "diary")
        self.assertEqual(told["c"], ("failed", ("b", 0), ("y",), ()))
        self.assertEqual(told["a"], ("ended", (), (), (("closed", ("x", "y")),)))

    def test_without_a_group_nobody_is_a_mate(self):
        house = built({"a": [("fail", "w")], "b": [("give",)]})
        self.assertEqual(self.rows(house, ("a",), "status")["b"], ("going",))

    def test_the_host_is_not_asked(self):
        house = built({"a": [("start", "b"), ("catch", "g"), ("give",)], "b in g": [("fail", "w")]}, {"g": "a"})
        self.assertEqual(self.rows(house, ("a", "b"), "status")["a"], ("going",))
        self.assertEqual(self.rows(house, ("a", "b", "a", "a"), "status")["a"], ("ended",))

    def test_within_a_shield_it_fails_at_once(self):
        house = built({"a": [("in",), ("fail", "w"), ("out",)]})
        self.assertEqual(self.rows(house, ("a", "a"), "status", "number", "words")["a"], ("failed", 2, ("w",)))

    def test_idle_mates_are_not_asked(self):
        house = built({"a": [("start", "b"), ("start", "c"), ("catch", "g")], "b in g": [("fail", "w")],
                       "c in g": [("give",)]}, {"g": "a"})
        told = self.rows(house, ("a", "b", "a"), "status", "by", "held")
        self.assertEqual(told["c"], ("going", ("a", 1), ()))

    def test_a_failing_close_asks_by_its_mark(self):
        house = built({
            "a": [("start", "b"), ("start", "c"), ("catch", "g")],
            "b in g": [("start", "d"), ("start", "e"), ("close", "h"), ("catch", "i")], "c in g": [("give",)],
            "d in h": [("fail", "w")], "e in i": [("give",)],
        }, {"g": "a", "h": "b", "i": "b"})
        told = self.rows(house, ("a", "a", "b", "b", "d", "b"), "status", "words", "diary")
        by_b = (("stopped", ("b", 2)),)
        self.assertEqual(told["b"], ("failed", ("w",), (("closed", ("w",)),)))
        self.assertEqual((told["c"], told["e"]), (("stopped", (), by_b), ("stopped", (), by_b)))

    def test_a_stop_goes_down_from_a_mate(self):
        house = built({
            "a": [("start", "b"), ("start", "c"), ("catch", "g")], "b in g": [("fail", "w")],
            "c in g": [("start", "d"), ("catch", "h")], "d in h": [("give",)],
        }, {"g": "a", "h": "c"})
        told = self.rows(house, ("a", "a", "c", "b"), "status", "diary")
        by_b = (("stopped", ("b", 0)),)
        self.assertEqual((told["c"], told["d"]), (("stopped", by_b), ("stopped", by_b)))

    def test_a_stop_goes_down_from_the_host_of_the_host(self):
        house = built({
            "a": [("start", "b"), ("start", "c"), ("catch", "g")], "b in g": [("give",)],
            "c in g": [("start", "d"), ("catch", "h")], "d in h": [("cancel", "a"), ("give",)],
        }, {"g": "a", "h": "c"})
        told = self.rows(house, ("a", "a", "c", "d"), "status", "diary")
        self.assertEqual(set(told.values()), {("stopped", (("stopped", ("d", 0)),))})
