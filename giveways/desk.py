"""A desk: requests put as lines to a Board, and the replies to them."""

from giveways.board import Board
from giveways.checks import check_task
from giveways.diaries import row_at
from giveways.errors import (
    BadLine,
    BadText,
    Known,
    NoGroup,
    NoHouse,
    NoQueue,
    NoStep,
    NoTask,
    NotReady,
    NothingDone,
    Unfit,
)
from giveways.lanes import lying, waits
from giveways.notes import claim_as_written, edit_as_written, flat_text, note_of_claim, note_of_edit
from giveways.plans import Plan
from giveways.play import DIARY, ready_tasks
from giveways.runs import played
from giveways.scripts import is_house, is_script
from giveways.shapes import is_name, tupled
from giveways.texts import house_as_written, house_text, marks_text, names_text, or_dash

# The words of requests of which all parts are NAMEs, and how many these are.
NAME_PARTS = {
    "drop": 1,
    "rename": 2,
    "turn": 2,
    "undo": 0,
    "house": 1,
    "names": 0,
    "same": 0,
    "alike": 0,
    "deeds": 0,
    "claims": 1,
    "standing": 1,
    "lost": 1,
    "sure": 1,
    "run": 1,
    "ready": 1,
    "clock": 1,
    "waits": 1,
    "lying": 2,
    "diary": 2,
}
DEEDS = ("put", "drop", "rename", "edit", "turn", "keep", "free", "undo")
CLAIM_WORDS = ("claims", "standing", "lost", "sure")
RUN_WORDS = ("run", "ready", "clock", "waits", "lying", "diary")


def entry_text(entry):
    """The text of an ENTRY."""
    return flat_text(tupled(entry))


def claim_text(claim):
    """The text of a CLAIM."""
    return note_of_claim(claim)


def edit_text(edit):
    """The text of an EDIT."""
    return note_of_edit(edit)


def claim_from(text):
    """The CLAIM that is so written, its words in whatever order."""
    claim = claim_as_written(text)
    if claim is None:
        raise BadText(0)
    return claim


def edit_from(text):
    """The EDIT that is so written, its SCRIPT maybe none."""
    edit = edit_as_written(text)
    if edit is None:
        raise BadText(0)
    return edit


def is_request(thing):
    """Whether thing is a string that is a request, by its shape alone."""
    return isinstance(thing, str) and request_from(thing) is not None


def replies(text):
    """The replies to the lines of this text, put one behind another to a new Board."""
    requests = []
    for number, line in enumerate(text.split("\n") if text != "" else []):
        request = request_from(line)
        if request is None:
            raise BadLine(number)
        requests.append(request)
    board = Board()
    return [reply(board, word, parts) for word, parts in requests]


def request_from(line):
    """The word and the tuple of the parts of the request that is so written, None if none is."""
    word, *words = line.split(" ")
    if word in NAME_PARTS:
        is_right = len(words) == NAME_PARTS[word] and all([is_name(name) for name in words])
        return (word, tuple(words)) if is_right else None
    if len(words) < 2 or not is_name(words[0]):
        return None
    worth = worth_from(word, " ".join(words[1:]))
    return (word, (words[0], worth)) if worth is not None else None


def worth_from(word, text):
    """The HOUSE, EDIT or CLAIM that is so written, as this word asks for it, maybe unfit; None if none is."""
    if word == "put":
        return house_if_written(text)
    if word == "edit":
        return edit_as_written(text)
    return claim_as_written(text) if word in ("keep", "free") else None


def house_if_written(text):
    """The tasks, groups and rooms that are so written, None if none are."""
    try:
        return house_as_written(text)
    except BadText:
        return None


def reply(board, word, parts):
    """The reply of the Board to one request."""
    try:
        return answer(board, word, parts)
    except Known:
        return "refused Known"
    except NoGroup:
        return "refused NoGroup"
    except NoHouse:
        return "refused NoHouse"
    except NoQueue:
        return "refused NoQueue"
    except NoStep:
        return "refused NoStep"
    except NoTask:
        return "refused NoTask"
    except NotReady:
        return "refused NotReady"
    except NothingDone:
        return "refused NothingDone"
    except Unfit:
        return "refused Unfit"


def answer(board, word, parts):
    """What the Board answers to one request that is not refused."""
    if word in DEEDS:
        check_written(word, parts)
        do_deed(board, word, parts)
        return "done"
    if word in CLAIM_WORDS:
        claims = claims_asked(board, word, parts[0])
        return or_dash("; ".join([claim_text(claim) for claim in claims]))
    if word in RUN_WORDS:
        return answer_by_run(board, word, parts)
    if word == "house":
        return house_text(board[parts[0]])
    if word == "alike":
        return or_dash(", ".join([names_text(names) for names in board.alike()]))
    if word == "deeds":
        return str(board.deeds)
    return names_text(board.names if word == "names" else board.same())


def check_written(word, parts):
    """Refuse a HOUSE or a SCRIPT that is written as one, but is none."""
    if word == "put" and not is_house(parts[1]):
        raise Unfit()
    if word == "edit" and parts[1][0] == "task" and not is_script(parts[1][3]):
        raise Unfit()


def do_deed(board, word, parts):
    """Do this deed on the Board."""
    if word == "put":
        board.put(*parts)
    elif word == "drop":
        board.drop(*parts)
    elif word == "rename":
        board.rename(*parts)
    elif word == "edit":
        board.edit(*parts)
    elif word == "turn":
        board.turn(*parts)
    elif word == "keep":
        board.keep(*parts)
    elif word == "free":
        board.free(*parts)
    else:
        board.undo()


def claims_asked(board, word, name):
    """The kept CLAIMS for which this word asks."""
    if word == "claims":
        return board.claims(name)
    if word == "standing":
        return board.standing(name)
    return board.lost(name) if word == "lost" else board.sure(name)


def answer_by_run(board, word, parts):
    """What is told of the run so far, and of what is behind it."""
    house, run = board[parts[0]], board.run(parts[0])
    plan = Plan(house)
    state = played(plan, run)[-1]
    if word == "run":
        return names_text(run)
    if word == "ready":
        return names_text(ready_tasks(plan, state))
    if word == "clock":
        return str(state[0])
    if word == "waits":
        return or_dash(", ".join([flat_text(pair) for pair in waits(house, run)]))
    if word == "lying":
        return marks_text(lying(house, run, parts[1]))
    check_task(plan, parts[1])
    return or_dash(", ".join([entry_text(entry) for entry in row_at(plan, state, parts[1])[DIARY]]))
