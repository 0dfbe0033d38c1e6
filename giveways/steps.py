"""What the words of STEPS stand for, and where the STEPS of a SCRIPT stand."""

from giveways.shapes import is_name, is_number

PARTS = {
    "give": (),
    "put": ("name",),
    "get": ("name", "end"),
    "set": ("name",),
    "hear": ("name", "end"),
    "start": ("name",),
    "join": ("name", "end"),
    "until": ("moment",),
    "cancel": ("name",),
    "in": (),
    "out": (),
    "close": ("name",),
    "catch": ("name",),
    "fail": ("name",),
}
QUEUE_WORDS = ("put", "get")
SIGNAL_WORDS = ("set", "hear")
TASK_WORDS = ("start", "join", "cancel")
CLOSING_WORDS = ("close", "catch")
TIMED_WORDS = ("get", "hear", "join")
NOTING_WORDS = ("put", "get", "hear", "join", "close", "catch")


def fits_part(kind, thing):
    """Whether thing can be a part of this kind in a STEP."""
    if kind == "name":
        return is_name(thing)
    if kind == "end" and thing == ():
        return True
    return is_number(thing) and thing >= 0


def depths(steps):
    """How many shields stand around each STEP, and, last, behind all of them."""
    depth = 0
    told = [depth]
    for step in steps:
        if step[0] == "in":
            depth += 1
        elif step[0] == "out":
            depth -= 1
        told.append(depth)
    return tuple(told)


def shields_close(steps):
    """Whether each "out" closes an "in" ahead of it, and each "in" is closed."""
    told = depths(steps)
    return min(told) == 0 and told[-1] == 0


def naming_marks(tasks, words):
    """For each STEP of these words, what it names and its MARK, by tasks and numbers."""
    return [
        (step[1], (row[0], number))
        for row in tasks
        for number, step in enumerate(row[2])
        if step[0] in words
    ]


def time_of(step):
    """The end or the moment of a STEP, None if it has none."""
    if step[0] == "until":
        return step[1]
    if step[0] in TIMED_WORDS and step[2] != ():
        return step[2]
    return None
