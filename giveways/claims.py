"""CLAIMS of a HOUSE, and the PAPERS against them; STEPS that spoil that all orders tell the same, or prop it."""

from giveways.clash import against, is_against, is_same
from giveways.diaries import row_at
from giveways.edits import edited
from giveways.errors import Unfit
from giveways.plans import Plan
from giveways.play import NUMBER, STATUS, WORDS
from giveways.routes import leading, run_through
from giveways.runs import state_if_whole
from giveways.scripts import all_marks
from giveways.shapes import tupled
from giveways.verdicts import bad_ends, bad_turns, is_claim_of, is_so_at, is_so_behind, stands_on
from giveways.webs import end_places, ends_of_plan, first_run, web_of

WORDS_BY_STATUS = {"ended": "ends", "stopped": "stops", "going": "waits"}


def is_claim(house, thing):
    """Whether thing is a CLAIM of the HOUSE."""
    return is_claim_of(Plan(tupled(house)), thing)


def stands(house, claim):
    """Whether the CLAIM is so in each whole run."""
    plan = Plan(tupled(house))
    return stands_on(web_of(plan), checked_claim(plan, claim))


def paper(house, claim):
    """A PAPER against the CLAIM, None if it stands."""
    plan = Plan(tupled(house))
    told = checked_claim(plan, claim)
    if told[0] == "same":
        return against(house)
    web = web_of(plan)
    if told[0] == "ahead":
        return run_through(web, leading(web, end_places(web)), told[2][0], bad_turns(web, told))
    return first_run(web, bad_ends(web, told))


def is_paper(house, claim, thing):
    """Whether thing is a PAPER against the CLAIM."""
    plan = Plan(tupled(house))
    told = checked_claim(plan, claim)
    if told[0] == "same":
        return is_against(house, thing)
    state = state_if_whole(plan, thing)
    if state is None:
        return False
    if told[0] == "ahead":
        return not is_so_behind(thing, told)
    return not is_so_at(plan, state, told)


def all_standing(house):
    """The set of the CLAIMS that stand, but for those with "same", "late", "ahead" and "gets"."""
    plan = Plan(tupled(house))
    ends = ends_of_plan(plan)
    lots = [claims_at(plan, state) for state in ends]
    return tuple(sorted([claim for claim in lots[0] if all([claim in lot for lot in lots])]))


def spoilers(house):
    """The MARKS of the STEPS without any one of which all orders tell the same; () if they do."""
    return () if is_same(house) else marks_without_which(house, True)


def props(house):
    """The MARKS of the STEPS without any one of which not all orders tell the same; () if they do not."""
    return marks_without_which(house, False) if is_same(house) else ()


def checked_claim(plan, claim):
    """This CLAIM, which must be one of the HOUSE."""
    told = tupled(claim)
    if not is_claim_of(plan, told):
        raise Unfit()
    return told


def claims_at(plan, state):
    """The CLAIMS about tasks, STEPS taken and the clock that are so at this END."""
    told = [("clock", state[0])]
    for task in plan.tasks:
        row = row_at(plan, state, task)
        if row[STATUS] == "failed":
            told.append(("fails", task, row[WORDS]))
        elif row[STATUS] in WORDS_BY_STATUS:
            told.append((WORDS_BY_STATUS[row[STATUS]], task))
        told.extend([("takes", (task, number)) for number in range(row[NUMBER])])
    return told


def marks_without_which(house, is_wanted):
    """The MARKS of the STEPS without any one of which it is so, or is not so, that all orders tell the same."""
    return tuple([mark for mark in all_marks(house) if is_same_without(house, mark) == is_wanted])


def is_same_without(house, mark):
    """Whether the HOUSE without this STEP tells the same FOR ALL orders, None if it is no HOUSE."""
    try:
        other = edited(house, ("out", *mark))
    except Unfit:
        return None
    return is_same(other)
