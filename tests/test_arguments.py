"""[2] and the interface: names and places of arguments, lists for tuples, and that nothing handed in is changed."""

import copy
import importlib
import inspect
import unittest

from giveways.clash import same_paper
from giveways.ends import fence
from giveways.errors import HouseError
from giveways.houses import after
from giveways.sides import with_orders
from giveways.texts import house_text
from tests.made import built, listed, made_house, made_run, small_house

INTERFACE = {
    "houses": """begin(house), ready(house, state), next_step(house, state, task), turn(house, state, task),
        states(house, choices), after(house, choices), is_run(house, thing), is_done(house, state),
        is_whole(house, thing), told(house, choices), marks(house, choices), places_of(house, choices, task),
        stand_of(state, task), diary_of(state, task), is_over(state, task), left_over(state), own_run(house),
        run_by(house, row), gone_on(house, choices), rounds(house), longest_wait(house, choices),
        who_waits(house, choices, many), is_fair(house, choices, many)""",
    "scripts": """is_step(thing), is_script(thing), is_house(thing), task_names(house), queue_names(house),
        signal_names(house), first_tasks(house), script_of(house, task), group_of(house, task),
        step_of(house, task, number), shields_at(house, task, number), all_marks(house), starter_of(house, task),
        host_of(house, group), tasks_in(house, group), closer_of(house, group), hosts_above(house, task),
        room_of(house, queue), with_script(house, task, steps), with_step(house, task, number, step),
        without_step(house, task, number), with_task(house, name, steps), without_task(house, task),
        with_room(house, queue, room)""",
    "texts": """script_text(steps), names_text(names), marks_text(marks), house_text(house), script_from(text),
        names_from(text), marks_from(text), house_from(text)""",
    "lanes": """wait_of(house, choices, task), waits(house, choices), end_of(house, choices, task), puts_of(house, choices,
        queue), gets_of(house, choices, queue), lying(house, choices, queue), got_by(house, choices, mark),
        taken_by(house, choices, mark), set_by(house, choices, signal), heard_by(house, choices, signal), lates(house,
        choices), over_at(house, choices, task), can_get(house, mark), can_miss(house, mark), is_miss(house, mark,
        thing), can_set(house, signal), unset_run(house, signal), is_unset_run(house, signal, thing),
        can_be_late(house, mark), surely_late(house, mark), soonest_over(house, task), latest_over(house, task),
        fullest(house, queue), most_lying(house, queue), is_fullest(house, queue, thing), least_room(house, queue),
        moments_of(house), with_moments(house, moments), at_ranks(house), with_end(house, mark, end)""",
    "groups": """hosted(house, task), mates(house, task), below(house, task), shields(house, task), asked(house, choices,
        task), held_back(house, choices), stopped_by(house, choices, task), words_in(house, choices, group),
        came_out(house, choices, group), blame(house, choices, task), is_blame(house, choices, task, thing),
        how_many_blames(house, choices, task), first_causes(house, choices, task), with_cancel(house, task, number,
        name), with_shield(house, task, first, last), without_shield(house, task, number), may_stop(house, task),
        may_fail(house, task), may_come_out(house, group), never_stopped(house), biting(house, task, name),
        is_never_cut(house, task), keeping_shields(house, task), least_shield(house, task)""",
    "needs": """swaps(house, choices), swapped(house, choices, place), needs(house, choices, place), needed_by(house, choices,
        place), rests_on(house, choices, place), need_pairs(house, choices), chain(house, choices, place, last),
        is_chain(house, choices, thing), longest_chain(house, choices), layers(house, choices), is_part(house,
        choices, thing), part_of(house, choices, places), part_first(house, choices, places), state_behind(house,
        choices, places), how_many_parts(house, choices), all_parts(house, choices), put_off(house, choices, place),
        brought_on(house, choices, place), are_alike(house, one, other), least_alike(house, choices),
        how_many_alike(house, choices), fewest_swaps(house, one, other), swap_row(house, one, other),
        is_swap_row(house, one, other, thing), run_against(house, mark, goal), surely_ahead(house, mark, goal),
        is_run_against(house, mark, goal, thing)""",
    "clash": """do_clash(house, choices, one, other), clashes(house, choices), shut_by(house, choices, task), both_ways(house,
        choices, one, other), parted(state, later), rivals(house, choices, number), turning_places(house, choices),
        is_same(house), is_calm(house, choices), clash_paper(house, choices), is_clash_paper(house, choices, thing),
        least_clash(house, choices), two_runs(house, choices, part, one, other), against(house), is_against(house,
        thing), same_paper(house), is_same_paper(house, thing), clashing_steps(house), clash_run(house, mark, far),
        is_decided(house, choices), decided_at(house, choices)""",
    "orders": """how_many_runs(house), all_runs(house), nth_run(house, number), place_of(house, choices), runs_on(house,
        choices), all_states(house), states_at(house, number), most_ready(house), forks(house), shortest(house),
        longest(house), sure_turns(house), ends_told(house), how_many_tell(house, state), share(house, state),
        chance(house, state), classes(house), least_run(house, state), least_beginning(house, state), ends_left(house,
        choices), changed_run(house, choices, state), fewest_changed(house, choices, state), is_changed_run(house,
        choices, state, thing), how_many_with(house, mark), turns_of(house, mark), how_many_ahead(house, one, other)""",
    "ends": """live(house, state), is_waiting(house, state, task), waits_for(house, state, task), could_stop(house, state,
        task), row_of_waits(house, state, task), in_rings(house, state), is_knot(house, state, thing),
        greatest_knot(house, state), lost_from(house, choices, task), fates(house, task), run_to_fate(house, task,
        status), is_run_to_fate(house, task, status, thing), surely_over(house, task), standing_run(house),
        fence(house), is_fence(house, thing), words_told(house, group), run_with_words(house, group, words),
        is_run_with_words(house, group, words, thing), run_to_failed(house, some), is_run_to_failed(house, some,
        thing)""",
    "sides": """beside(house, other), sides(house), side_of(house, task), beats(house, choices), unwoven(house, choices),
        weavings(house, other, choices, others), renamed(house, kind, pairs), renamed_state(house, kind, pairs, state),
        with_gives(house, task, number, many), without_gives(house), state_without_gives(house, state), heeds(house,
        task), heeders(house, task), without_tasks(house, some), state_without_tasks(house, some, state),
        with_orders(house, pairs), state_without_orders(house, pairs, state), mends(house, pairs),
        fewest_orders(house)""",
    "watch": """moments(house, choices), held_up(house, choices), changed(house, choices, number, task),
        unlike_tasks(house, one, other), first_unlike(house, one, other), rest_of(house, one, other),
        shortest_to(house, task, number)""",
    "told": """is_end(house, thing), run_telling(house, state), is_run_telling(house, state, thing), classes_telling(house,
        state), always_ahead(house, state), run_ahead(house, state, one, other), is_run_ahead(house, state, one, other,
        thing), accounts_of(house, task), ends_with(house, accounts), sure_account(house, accounts, task),
        was_taken(house, accounts, mark), order_by(house, accounts, one, other), telling_tasks(house),
        fewest_telling(house), unlike_by(house, tasks), is_unlike_by(house, tasks, thing)""",
    "edits": "is_edit(thing), edited(house, edit), undone_by(house, edit), do_commute(house, one, other)",
    "claims": """is_claim(house, thing), paper(house, claim), stands(house, claim), is_paper(house, claim, thing),
        all_standing(house), spoilers(house), props(house)""",
    "desk": """entry_text(entry), claim_text(claim), edit_text(edit), claim_from(text), edit_from(text), is_request(thing),
        replies(text)""",
}
CLASSES = {
    "watch.Watch": """Watch(house), ready(), take(task), go(choices), back(), again(), to(number), state_at(number), diary(task),
        twin()""",
    "board.Board": """Board(), put(name, house), drop(name), rename(name, new), edit(name, edit), turn(name, task),
        keep(name, claim), free(name, claim), undo(), twin(), run(name), claims(name), standing(name), lost(name),
        sure(name), spoilt_by(name, edit), mended_by(name, edit), same(), alike()""",
}
PROPERTIES = {"watch.Watch": ("house", "choices", "state", "ahead"), "board.Board": ("names", "deeds")}
HOUSE = built({"a": [("start", "b"), ("put", "q"), ("get", "q", 4), ("close", "g")],
               "b in g": [("in",), ("join", "c", ()), ("out",), ("fail", "w")], "c": [("set", "s"), ("hear", "s", ())]},
              {"g": "a"}, {"q": 2})
RUN = ("a", "a", "c", "b")
WORTHS = {
    "house": HOUSE, "state": after(HOUSE, RUN), "task": "b", "choices": RUN, "row": ("c", "b", "a"), "many": 0,
    "number": 1, "group": "g", "queue": "q", "room": 3, "name": "z", "steps": (("get", "q", ()), ("join", "a", 2)),
    "step": ("hear", "s", ()), "mark": ("a", 2), "signal": "s", "moments": (7,), "end": 9, "first": 1, "last": 1,
    "marks": (("b", 1), ("a", 0), ("b", 1)), "names": ("a", "b", "a"), "text": "a 0, b 1",
    "place": 1, "places": (3,), "goal": ("b", 3), "far": ("c", 0), "later": after(HOUSE, RUN[:3]), "status": "failed",
    "some": ("a", "b"), "words": ("w",), "one": "a", "other": "b", "part": (0, 1),
}
FAR = built({"x": [("give",)], "y": [("until", 3), ("put", "z")]}, {}, {"z": 1})
LATE = built({"ann": [("put", "r")], "bo": [("get", "r", 0)], "cy": [("get", "r", ())]})
END = after(LATE, ("bo", "ann", "cy"))
RACE = built({"a": [("put", "q")], "b": [("put", "q")], "c": [("get", "q", ())]})
LONE = built({"a": [("set", "s"), ("start", "c")], "b": [("hear", "s", ())], "c": [("hear", "s", ())]})
ORDERS = ((("a", 0), ("b", 0)),)
LOCK = built({"a": [("put", "q"), ("get", "q", ())], "b": [("put", "q"), ("get", "q", ())]}, {}, {"q": 1})
WHOLE = ("a", "a", "a", "b", "c", "c", "b", "b", "b", "a")
OWN = {
    "turn": {"task": "a"}, "told": {"choices": WHOLE}, "without_task": {"house": built({"a": [("give",)], "b": [("give",)]})},
    "taken_by": {"mark": ("a", 1)}, "house_from": {"text": house_text(HOUSE)}, "script_from": {"text": "in, get q 3, out"},
    "names_from": {"text": "a b a"}, "with_step": {"name": "z"}, "with_cancel": {"name": "c"}, "biting": {"name": "c"},
    "came_out": {"choices": WHOLE}, "words_in": {"choices": WHOLE}, "blame": {"choices": WHOLE, "task": "a"},
    "is_blame": {"choices": WHOLE, "task": "a"}, "how_many_blames": {"choices": WHOLE, "task": "a"},
    "first_causes": {"choices": WHOLE, "task": "a"}, "asked": {"choices": WHOLE[:-1], "task": "a"},
    "without_shield": {"number": 0}, "hosted": {"task": "a"}, "below": {"task": "a"}, "may_fail": {"task": "a"},
    "swapped": {"choices": RUN, "place": 2}, "chain": {"place": 0, "last": 3}, "rivals": {"number": 2},
    "shut_by": {"task": "c"}, "do_clash": {"choices": RUN[:2]}, "both_ways": {"choices": RUN[:2]},
    **{name: {"one": RUN, "other": ("a", "a", "b", "c")} for name in ("are_alike", "fewest_swaps", "swap_row", "is_swap_row")},
    **{name: {"choices": WHOLE} for name in ("is_calm", "clash_paper", "is_clash_paper", "least_clash", "place_of")},
    "two_runs": {"house": LOCK, "choices": ("a", "a", "b", "b"), "part": ()},
    **{name: {"state": after(HOUSE, WHOLE)} for name in ("how_many_tell", "share", "chance", "least_beginning")},
    **{name: {"choices": WHOLE, "state": after(HOUSE, WHOLE)} for name in ("fewest_changed", "changed_run", "is_changed_run")},
    "how_many_ahead": {"one": ("a", 1), "other": ("b", 1)}, "waits_for": {"task": "b"}, "lost_from": {"task": "b"},
    "beside": {"other": FAR}, "weavings": {"other": FAR, "choices": WHOLE, "others": ("x", "y", "y")},
    **{name: {"kind": "task", "pairs": (("a", "b"), ("b", "a"))} for name in ("renamed", "renamed_state")},
    "with_gives": {"many": 2}, **{name: {"house": LONE, "some": ("c",), "state": after(LONE, ("a", "b"))}
                                  for name in ("without_tasks", "state_without_tasks")},
    **{name: {"house": RACE, "pairs": ORDERS, "state": after(with_orders(RACE, ORDERS), ("a", "a", "b"))}
       for name in ("with_orders", "state_without_orders", "mends", "fewest_orders")},
    **{name: {"one": RUN, "other": ("a", "a", "b", "c")} for name in ("unlike_tasks", "first_unlike")},
    "rest_of": {"one": ("a",), "other": RUN}, "shortest_to": {"number": 2}, "changed": {"number": 2, "task": "b"},
    **{name: {"house": LATE, "state": END, "one": ("cy", 0), "other": ("bo", 0), "task": "bo", "mark": ("cy", 0),
              "accounts": (END[1][1],), "tasks": ("ann",)}
       for name in ("is_end", "run_telling", "is_run_telling", "classes_telling", "always_ahead", "run_ahead", "is_run_ahead", "accounts_of",
                    "ends_with", "sure_account", "was_taken", "order_by", "telling_tasks", "fewest_telling", "unlike_by", "is_unlike_by")},
    **{name: {"edit": ("task", "z", "g", (("get", "q", ()),), ("a", 1))} for name in ("edited", "undone_by", "edit_text")},
    "do_commute": {"one": ("in", "c", 0, ("hear", "q", ())), "other": ("out", "a", 1)},
    **{name: {"claim": ("ahead", ("c", 1), ("b", 1))} for name in ("paper", "stands", "is_paper", "claim_text")},
    "entry_text": {"entry": ("joined", "failed", ("v", "w"))}, "claim_from": {"text": "gets a 0, b 1"},
    "edit_from": {"text": "task b in g by a 0: in"}, "replies": {"text": "put x task a: give\nturn x a\nsame"},
    "got_by": {"choices": WHOLE}, "gets_of": {"choices": WHOLE}, "heard_by": {"choices": WHOLE},
}
THINGS = {
    "is_run": RUN, "is_whole": RUN, "is_step": ("get", "q", ()), "is_script": (("give",),), "is_house": HOUSE,
    "is_miss": WHOLE, "is_unset_run": WHOLE, "is_fullest": ("a", "a"),
    "is_blame": (("a", "group", ("a", 3)), ("b", "own", ("b", 3))),
    "is_chain": (0, 1), "is_part": (0, 3), "is_swap_row": (RUN, ("a", "a", "b", "c")), "is_run_against": RUN,
    "is_clash_paper": ((), "a", "b"), "is_against": (WHOLE, WHOLE), "is_same_paper": same_paper(HOUSE), "is_changed_run": WHOLE,
    "is_end": END, "is_run_telling": ("bo", "ann", "cy"), "is_run_ahead": ("ann", "cy", "bo"),
    "is_unlike_by": (after(LATE, ("ann", "bo")), END), "is_edit": ("out", "a", 1), "is_claim": ("gets", ("a", 2), ("a", 1)),
    "is_paper": WHOLE, "is_request": "edit x in a 0 give",
    "is_knot": (), "is_run_to_fate": WHOLE, "is_fence": fence(HOUSE), "is_run_with_words": WHOLE, "is_run_to_failed": WHOLE,
}
FALSE = ("is_whole", "is_miss", "is_unset_run", "is_run_against", "is_clash_paper", "is_against",
         "is_paper")
# Of these the document says that they tell a list.
TELL_LISTS = ("states", "keeping_shields", "all_parts", "all_runs", "all_states", "states_at", "ends_told", "classes",
              "ends_left", "classes_telling", "ends_with", "accounts_of", "telling_tasks", "replies")
SMALL = ("can_get", "can_miss", "is_miss", "can_set", "unset_run", "is_unset_run", "can_be_late", "surely_late", "soonest_over",
         "latest_over", "fullest", "most_lying", "is_fullest", "least_room", "may_stop", "may_fail", "may_come_out",
         "never_stopped", "biting", "is_never_cut", "keeping_shields", "least_shield", "all_parts", "how_many_alike",
         "surely_ahead", "run_against", "is_run_against", "is_same", "is_calm", "clash_paper", "is_clash_paper", "least_clash",
         "two_runs", "against", "same_paper", "is_same_paper", "clashing_steps", "clash_run", "is_decided", "decided_at", "fates",
         "run_to_fate", "surely_over", "standing_run", "fence", "words_told", "run_with_words", "run_to_failed", "mends",
         "fewest_orders", "rest_of", "shortest_to", "is_end", "run_telling", "is_run_telling", "classes_telling", "always_ahead",
         "run_ahead", "is_run_ahead", "accounts_of", "ends_with", "sure_account", "was_taken", "order_by", "telling_tasks",
         "fewest_telling", "unlike_by", "is_unlike_by", "paper", "stands", "is_paper", "all_standing", "spoilers", "props")


def functions():
    """Each function of the interface with the names of its arguments."""
    for module, text in INTERFACE.items():
        for part in " ".join(text.split()).split("), "):
            name, _, names = part.rstrip(")").partition("(")
            yield importlib.import_module("giveways." + module), name, names.split(", ")


def worths(name, names):
    known = {**WORTHS, **OWN.get(name, {}), "thing": THINGS.get(name)}
    return [known[key] for key in names]


def result(function, *args, **more):
    try:
        return function(*args, **more)
    except HouseError as error:
        return (type(error).__name__, vars(error))


class Interface(unittest.TestCase):
    def test_names_and_places(self):
        for module, name, names in functions():
            function = getattr(module, name)
            self.assertTrue(inspect.isfunction(function))
            self.assertEqual(function.__module__, module.__name__, name)
            parameters = inspect.signature(function).parameters
            self.assertEqual(list(parameters), names, name)
            for parameter in parameters.values():
                self.assertIs(parameter.kind, inspect.Parameter.POSITIONAL_OR_KEYWORD)
                self.assertIs(parameter.default, inspect.Parameter.empty)

    def test_all_are_there(self):
        self.assertEqual(len(list(functions())), 23 + 24 + 8 + 30 + 24 + 27 + 21 + 26 + 21 + 19 + 7 + 16 + 4 + 7 + 7)

    def test_the_worths_are_not_refused(self):
        """Each call with the worths of this file tells something, or the tests below would hold little."""
        for module, name, names in functions():
            told = result(getattr(module, name), *worths(name, names))
            self.assertFalse(isinstance(told, tuple) and told[:1] and str(told[0]).startswith("No"), (name, told))
            self.assertNotEqual(told, ("Unfit", {}), name)
            if name in THINGS and name not in FALSE:
                self.assertIs(told, True, name)

    def test_by_names_as_by_places(self):
        for module, name, names in functions():
            function, args = getattr(module, name), worths(name, names)
            expected = result(function, *args)
            self.assertEqual(result(function, **dict(zip(names, args))), expected, name)
            self.assertEqual(result(function, **dict(list(zip(names, args))[::-1])), expected, name)
            self.assertEqual(result(function, *args), expected, name)


class ClassesOfTheInterface(unittest.TestCase):
    def test_methods_by_their_names(self):
        for place, text in CLASSES.items():
            module, name = place.split(".")
            kind = getattr(importlib.import_module("giveways." + module), name)
            self.assertEqual(kind.__module__, "giveways." + module)
            for part in " ".join(text.split()).split("), "):
                method, _, names = part.rstrip(")").partition("(")
                method = "__init__" if method == name else method
                self.assertIn(method, vars(kind))
                self.assertEqual(list(inspect.signature(vars(kind)[method]).parameters)[1:], [key for key in names.split(", ") if key])
            for key in PROPERTIES[place]:
                self.assertIsInstance(vars(kind)[key], property)
                self.assertIsNone(vars(kind)[key].fset)
            self.assertIn("__len__", vars(kind))
            self.assertIn("__eq__", vars(kind))
        self.assertIn("__contains__", vars(kind))
        self.assertIn("__getitem__", vars(kind))


class Lists(unittest.TestCase):
    def test_lists_for_tuples_at_any_depth(self):
        for module, name, names in functions():
            function, args = getattr(module, name), worths(name, names)
            swapped = [arg if key == "thing" else listed(arg) for key, arg in zip(names, args)]
            expected = result(function, *args)
            told = result(function, *swapped)
            self.assertEqual(told, expected, name)
            self.assertEqual(listed(told), listed(expected))
            self.assertEqual(repr(told), repr(expected), name)

    def test_one_list_at_a_time(self):
        def with_lists(worth):
            if isinstance(worth, tuple):
                yield list(worth)
                for at, part in enumerate(worth):
                    for other in with_lists(part):
                        yield worth[:at] + (other,) + worth[at + 1:]
        for module, name, names in functions():
            function, args = getattr(module, name), worths(name, names)
            expected = repr(result(function, *args))
            for at, key in enumerate(names):
                if key != "thing":
                    for other in with_lists(args[at]):
                        told = result(function, *args[:at], other, *args[at + 1:])
                        self.assertEqual(repr(told), expected, (name, key, other))

    def test_along_many_houses(self):
        for number in range(40):
            house = made_house(number) if number < 30 else small_house(number)
            run = made_run(house, number)
            state = after(house, run[:3])
            more = {"house": house, "state": state, "choices": run, "task": house[0][0][0],
                    "row": tuple(row[0] for row in house[0])}
            for module, name, names in functions():
                if (name in SMALL or module.__name__ == "giveways.orders") and number < 30:
                    continue
                args = [{**WORTHS, **OWN.get(name, {}), **more, "thing": run}[key] for key in names]
                swapped = [arg if key == "thing" else listed(arg) for key, arg in zip(names, args)]
                function = getattr(module, name)
                self.assertEqual(repr(result(function, *swapped)), repr(result(function, *args)), name)


class Unchanged(unittest.TestCase):
    def test_no_call_changes_what_it_was_handed(self):
        for module, name, names in functions():
            for kind in (listed, copy.deepcopy):
                args = [kind(arg) for arg in worths(name, names)]
                held = copy.deepcopy(args)
                first = result(getattr(module, name), *args)
                self.assertEqual(args, held, name)
                self.assertEqual(repr(args), repr(held), name)
                second = result(getattr(module, name), *args)
                self.assertEqual(first, second)

    def test_a_refused_call_changes_nothing(self):
        wrong = {"task": "zed", "choices": ["c", "zed", "a"], "name": "a", "number": 99, "group": "zed",
                 "steps": [["in"]], "step": ["out"]}
        for module, name, names in functions():
            args = [listed({**WORTHS, **OWN.get(name, {}), **wrong}.get(key, RUN)) for key in names]
            held = copy.deepcopy(args)
            result(getattr(module, name), *args)
            self.assertEqual(args, held, name)

    def test_results_hold_no_list_that_was_handed_in(self):
        house, steps = listed(HOUSE), [["give"]]
        from giveways import scripts
        told = [scripts.script_of(house, "a"), scripts.step_of(house, "a", 2), scripts.with_script(house, "c", steps),
                scripts.with_task(house, "z", steps), scripts.with_room(house, "q", 5)]
        held = copy.deepcopy(told)
        house[0][0][2].append(["give"])
        house[0][0][2][2][1] = "r"
        steps.append(["give"])
        self.assertEqual(told, held)

    def test_which_tell_a_list(self):
        for module, name, names in functions():
            told = result(getattr(module, name), *worths(name, names))
            self.assertEqual(isinstance(told, list), name in TELL_LISTS, name)

            def flat(worth):
                if isinstance(worth, (list, tuple)):
                    for part in worth:
                        self.assertNotIsInstance(part, list, name)
                        flat(part)
            flat(told)


class Yes(unittest.TestCase):
    def test_whether_is_told_by_true_or_false(self):
        for module, name, names in functions():
            if name.startswith("is_"):
                told = result(getattr(module, name), *worths(name, names))
                self.assertIn(told, (True, False))
                self.assertIs(type(told), bool, name)
