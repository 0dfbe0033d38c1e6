"""Small houses of which all RUNS are walked one by one, by the test's own turns."""

from tests.made import built, small_house
from tests.plain import all_plays

MOST_RUNS = 900
MADE = 110
KNOWN = {}

CHOSEN = (
    built({"a": [("put", "q"), ("get", "q", ())], "b": [("put", "q"), ("get", "q", ())]}, {}, {"q": 1}),
    built({"a": [("set", "s")], "b": [("hear", "s", ()), ("get", "q", ())], "c": [("put", "q"), ("get", "q", ())]}),
    built({"a": [("put", "q"), ("put", "q")], "b": [("get", "q", ()), ("get", "q", ())]}, {}, {"q": 1}),
    built({"a": [("put", "q")], "b": [("get", "q", 3)], "c": [("get", "q", 3)]}),
    built({"a": [("put", "q"), ("put", "q"), ("set", "s")], "b": [("hear", "s", ()), ("get", "q", ())]}, {}, {"q": 1}),
    built({"a in g": [("fail", "x")], "b in g": [("give",), ("put", "q")],
           "h": [("start", "a"), ("start", "b"), ("close", "g")]}, {"g": "h"}),
    built({"a in g": [("fail", "x")], "b in g": [("in",), ("fail", "y"), ("out",)],
           "h": [("start", "a"), ("start", "b"), ("catch", "g"), ("give",)]}, {"g": "h"}),
    built({"a in g": [("start", "b"), ("close", "k")], "b in k": [("fail", "x")], "c in g": [("give",), ("give",)],
           "h": [("start", "a"), ("start", "c"), ("close", "g")]}, {"g": "h", "k": "a"}),
    built({"a in g": [("start", "b"), ("give",), ("catch", "k")], "b in k": [("in",), ("give",), ("out",), ("put", "q")],
           "c": [("cancel", "h")], "h": [("start", "a"), ("close", "g")]}, {"g": "h", "k": "a"}),
    built({"a in g": [("fail", "x")], "b in g": [("in",), ("fail", "y"), ("out",)],
           "c in g": [("in",), ("fail", "z"), ("out",)],
           "h": [("start", "a"), ("start", "b"), ("start", "c"), ("close", "g")]}, {"g": "h"}),
    built({"a": [("hear", "s", ()), ("cancel", "b")], "b": [("set", "s"), ("put", "q")]}),
    built({"a": [("hear", "s", ()), ("cancel", "b")], "b": [("in",), ("set", "s"), ("put", "q"), ("out",)]}),
    built({"a": [("start", "c")], "b": [("cancel", "c")], "c": [("give",)]}),
    built({"a": [("until", 3), ("put", "q")], "b": [("get", "q", 5), ("get", "q", 3)], "c": [("until", 5), ("join", "a", 2)]}),
    built({"a": [("set", "s")], "b": [("set", "s")], "c": [("hear", "s", 1), ("join", "d", ())], "d": []}),
    built({"a": [("get", "q", ()), ("put", "r")], "b": [("get", "r", ()), ("put", "q")], "c": [("until", 2), ("cancel", "a")]}),
    built({"a": [("put", "q")], "b": [("put", "q")], "c": [("get", "q", ())]}),
    built({"a": [("put", "q")], "b": [("put", "q")], "c": [("get", "q", 0)]}),
    built({"a": []}), built({"a": [("give",)], "b": [("give",)]}),
    built({"a": [("hear", "s", ()), ("start", "b")], "b": [("set", "s")], "c": [("put", "r"), ("put", "r")]}, {}, {"r": 1}),
)


def walked():
    """Pairs of a small house and the Plays behind all its RUNS, the same ones in each call."""
    if not KNOWN:
        for house in [*CHOSEN, *[small_house(number) for number in range(MADE)]]:
            plays = all_plays(house, MOST_RUNS)
            if plays:
                KNOWN[house] = (plays, [play for play in plays if not play.ready()])
    return [(house, *plays) for house, plays in KNOWN.items()]


def turns(plays):
    """The CHOICES behind these Plays."""
    return [tuple(play.turns) for play in plays]
