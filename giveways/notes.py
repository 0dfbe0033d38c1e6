"""How ENTRIES, EDITS and CLAIMS are written, and how EDITS and CLAIMS are read back."""

from giveways.edits import is_closing
from giveways.shapes import is_name, tupled
from giveways.texts import mark_from, marks_text, number_from, pieces_of, script_text, step_from, step_text, steps_from

TASK_CLAIMS = ("ends", "stops", "waits")
MARK_CLAIMS = ("takes", "late")
PAIR_CLAIMS = ("ahead", "gets")


def flat_text(worth):
    """All that stands in this tuple, at any depth, with single blanks."""
    return " ".join([str(part) for part in flat(worth)])


def flat(worth):
    """All that stands in this tuple, at any depth."""
    told = []
    for part in worth:
        told.extend(flat(part) if isinstance(part, tuple) else [part])
    return told


def note_of_edit(edit):
    """The text of an EDIT."""
    told = tupled(edit)
    if told[0] == "task":
        _, name, group, script, starter = told
        front = ["task", name] + (["in", group] if group != "" else []) + (["by", starter] if starter != () else [])
        return f"{flat_text(front)}: {script_text(script)}"
    if told[0] == "group":
        _, group, host, step, number = told
        return f"group {group} of {host} {number} {step_text(step)}"
    return flat_text(told)


def note_of_claim(claim):
    """The text of a CLAIM."""
    told = tupled(claim)
    if told[0] in PAIR_CLAIMS:
        return f"{told[0]} {marks_text(told[1:])}"
    return flat_text(told)


def edit_as_written(text):
    """The EDIT that is so written, its SCRIPT maybe none; None if none is."""
    words = text.split(" ")
    if words[0] == "task":
        return new_task_from(text)
    if words[0] in ("in", "for"):
        return step_edit_from(words)
    if words[0] == "group":
        return new_group_from(words)
    if words[0] in ("out", "room"):
        parts = [words[0], *words[1:2], *[number_from(word) for word in words[2:]]]
        return edit_of(parts, 3)
    return edit_of(words, 2) if words[0] in ("gone", "apart") else None


def edit_of(parts, many):
    """The EDIT of these parts, None if they are not so many, one is none, or the second one is no NAME."""
    return tuple(parts) if len(parts) == many and None not in parts and is_name(parts[1]) else None


def step_edit_from(words):
    """The EDIT of a STEP put in, or in the place of another one; None if none is so written."""
    if len(words) < 4:
        return None
    return edit_of([words[0], words[1], number_from(words[2]), step_from(" ".join(words[3:]))], 4)


def new_group_from(words):
    """The EDIT of one group more, None if none is so written."""
    if len(words) < 6 or words[2] != "of" or not is_name(words[3]):
        return None
    step = step_from(" ".join(words[5:]))
    if step is None or not is_closing(step, words[1]):
        return None
    return edit_of(["group", words[1], words[3], step, number_from(words[4])], 5)


def new_task_from(text):
    """The EDIT of one task more, its SCRIPT maybe none; None if none is so written."""
    front, _, back = text.partition(": ")
    words = front.split(" ")
    group, starter = "", ()
    rest = words[2:]
    if rest[:1] == ["in"]:
        group = rest[1] if len(rest) > 1 and is_name(rest[1]) else None
        rest = rest[2:]
    if rest[:1] == ["by"]:
        starter = mark_from(" ".join(rest[1:]))
        rest = []
    if rest != [] or len(words) < 2:
        return None
    return edit_of(["task", words[1], group, steps_from(back), starter], 5)


def claim_as_written(text):
    """The CLAIM that is so written, its words in whatever order; None if none is."""
    word, sign, rest = text.partition(" ")
    if word == "same":
        return ("same",) if sign == "" else None
    if word in TASK_CLAIMS:
        return (word, rest) if is_name(rest) else None
    if word == "fails":
        names = rest.split(" ")
        is_right = len(names) > 1 and all([is_name(name) for name in names])
        return (word, names[0], tuple(names[1:])) if is_right else None
    if word in MARK_CLAIMS:
        mark = mark_from(rest)
        return (word, mark) if mark is not None else None
    if word in PAIR_CLAIMS:
        marks = [mark_from(piece) for piece in pieces_of(rest, ", ")]
        return (word, *marks) if len(marks) == 2 and None not in marks else None
    number = number_from(rest)
    return (word, number) if word == "clock" and number is not None else None
