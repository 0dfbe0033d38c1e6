"""Texts: how SCRIPTS, HOUSES, rows of NAMEs and MARKS are written, and how they are read back."""

from giveways.errors import BadText, Unfit
from giveways.scripts import is_house
from giveways.shapes import is_name, tupled
from giveways.steps import PARTS, shields_close

HEADS = ("task", "group", "room")


def script_text(steps):
    """The text of a SCRIPT."""
    return or_dash(", ".join([step_text(step) for step in tupled(steps)]))


def house_text(house):
    """The text of a HOUSE."""
    tasks, groups, rooms = house
    pieces = [f"{task_head(name, group)}: {script_text(steps)}" for name, group, steps in tasks]
    pieces.extend([f"group {group} of {host}" for group, host in groups])
    pieces.extend([f"room {queue} {room}" for queue, room in rooms])
    return or_dash("; ".join(pieces))


def names_text(names):
    """The text of a row of NAMEs."""
    return or_dash(" ".join(names))


def marks_text(marks):
    """The text of a row of MARKS."""
    return or_dash(", ".join([f"{task} {number}" for task, number in marks]))


def script_from(text):
    """The SCRIPT that is so written."""
    steps = read_pieces(pieces_of(text, ", "), step_from)
    if not shields_close(steps):
        raise Unfit()
    return steps


def house_from(text):
    """The HOUSE that is so written."""
    house = house_as_written(text)
    if not is_house(house):
        raise Unfit()
    return house


def names_from(text):
    """The row of NAMEs that is so written."""
    return read_pieces(pieces_of(text, " "), name_from)


def marks_from(text):
    """The row of MARKS that is so written."""
    return read_pieces(pieces_of(text, ", "), mark_from)


def house_as_written(text):
    """The tasks, groups and rooms that are so written, whether they make a HOUSE or not."""
    lots = {head: [] for head in HEADS}
    front = (-1, "")
    for at, piece in enumerate(pieces_of(text, "; ")):
        head = piece.partition(" ")[0]
        row = row_from(head, piece)
        if row is None or (HEADS.index(head), row[0]) <= front:
            raise BadText(at)
        front = (HEADS.index(head), row[0])
        lots[head].append(row)
    return (tuple(lots["task"]), tuple(lots["group"]), tuple(lots["room"]))


def or_dash(text):
    """This text, but - for the one without signs."""
    return text if text != "" else "-"


def step_text(step):
    """The text of a STEP, which has no end that is ()."""
    return " ".join([str(part) for part in step if part != ()])


def task_head(name, group):
    """What stands ahead of the colon in the piece of a task."""
    return f"task {name}" if group == "" else f"task {name} in {group}"


def pieces_of(text, sign):
    """The pieces of a text, cut at each such sign; - alone has none."""
    return [] if text == "-" else text.split(sign)


def read_pieces(pieces, reader):
    """What the reader reads from each piece."""
    told = []
    for at, piece in enumerate(pieces):
        worth = reader(piece)
        if worth is None:
            raise BadText(at)
        told.append(worth)
    return tuple(told)


def number_from(text):
    """The number that is so written, without a needless 0 in front; None if none is."""
    if text == "" or not all(["0" <= sign <= "9" for sign in text]):
        return None
    if text[0] == "0" and text != "0":
        return None
    # Python itself reads no more than some thousands of digits at once.
    start = len(text) % 18
    number = int("0" + text[:start])
    for at in range(start, len(text), 18):
        number = number * 10 ** 18 + int(text[at:at + 18])
    return number


def name_from(text):
    """The NAME that is so written, None if none is."""
    return text if is_name(text) else None


def mark_from(text):
    """The MARK that is so written, None if none is."""
    words = text.split(" ")
    if len(words) != 2 or not is_name(words[0]) or number_from(words[1]) is None:
        return None
    return (words[0], number_from(words[1]))


def step_from(text):
    """The STEP that is so written, None if none is."""
    words = text.split(" ")
    kinds = PARTS.get(words[0])
    if kinds is None:
        return None
    parts = [name_from(word) if kind == "name" else number_from(word) for kind, word in zip(kinds, words[1:])]
    if "end" in kinds and len(words) == len(kinds):
        parts.append(())
    elif len(words) != len(kinds) + 1:
        return None
    return None if None in parts else (words[0], *parts)


def steps_from(text):
    """The STEPS that are so written, whether their shields are closed or not; None if one is none."""
    steps = [step_from(piece) for piece in pieces_of(text, ", ")]
    return None if None in steps else tuple(steps)


def row_from(head, piece):
    """The triple or pair of the piece with this word at its head, None if it is not so written."""
    if head == "task":
        return task_from(piece)
    if head == "group":
        return group_from(piece)
    return room_from(piece) if head == "room" else None


def task_from(piece):
    """The triple of the task of this piece, None if it is not so written."""
    front, _, text = piece.partition(": ")
    words = front.split(" ")
    steps = steps_from(text)
    if steps is None or not (len(words) == 2 or len(words) == 4 and words[2] == "in"):
        return None
    names = [words[1], *words[3:]]
    if not all([is_name(name) for name in names]):
        return None
    return (names[0], names[1] if len(names) == 2 else "", steps)


def group_from(piece):
    """The pair of the group of this piece, None if it is not so written."""
    words = piece.split(" ")
    if len(words) != 4 or words[2] != "of":
        return None
    return (words[1], words[3]) if is_name(words[1]) and is_name(words[3]) else None


def room_from(piece):
    """The pair of the room of this piece, None if it is not so written."""
    words = piece.split(" ")
    if len(words) != 3 or not is_name(words[1]):
        return None
    room = number_from(words[2])
    return (words[1], room) if room is not None and room >= 1 else None
