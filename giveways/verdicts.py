"""What makes a CLAIM of a HOUSE, and whether one is so at an END, and in all whole runs of a web."""

from giveways.clash import has_one_end
from giveways.diaries import entry_of, is_taken, row_at
from giveways.play import STATUS, WORDS
from giveways.shapes import is_name, is_number
from giveways.steps import TIMED_WORDS
from giveways.ties import numbered
from giveways.webs import end_places, turns_taking

FORMS = {
    "same": (),
    "ends": ("task",),
    "stops": ("task",),
    "waits": ("task",),
    "fails": ("task", "words"),
    "takes": ("mark",),
    "late": ("timed",),
    "ahead": ("mark", "mark"),
    "gets": ("get", "put"),
    "clock": ("number",),
}
STATUSES = {"ends": "ended", "stops": "stopped", "waits": "going"}


def is_claim_of(plan, thing):
    """Whether thing is a CLAIM of the planned HOUSE."""
    if not isinstance(thing, tuple) or len(thing) == 0 or not isinstance(thing[0], str):
        return False
    kinds = FORMS.get(thing[0])
    if kinds is None or len(thing) != len(kinds) + 1:
        return False
    if not all([fits_claim(plan, kind, part) for kind, part in zip(kinds, thing[1:])]):
        return False
    return thing[0] != "ahead" or thing[1] != thing[2]


def fits_claim(plan, kind, thing):
    """Whether thing can be a part of this kind in a CLAIM."""
    if kind == "task":
        return isinstance(thing, str) and thing in plan.stand_at
    if kind == "words":
        return are_words(thing)
    if kind == "number":
        return is_number(thing) and thing >= 0
    if not is_mark_of(plan, thing):
        return False
    word = plan.scripts[thing[0]][thing[1]][0]
    if kind == "timed":
        return word in TIMED_WORDS
    return kind == "mark" or word == kind


def are_words(thing):
    """Whether thing is an ascending tuple of one or more NAMEs."""
    if not isinstance(thing, tuple) or thing == () or not all([is_name(word) for word in thing]):
        return False
    return all([thing[at - 1] < thing[at] for at in range(1, len(thing))])


def is_mark_of(plan, thing):
    """Whether thing is a MARK of the planned HOUSE."""
    if not isinstance(thing, tuple) or len(thing) != 2 or not isinstance(thing[0], str):
        return False
    return thing[0] in plan.scripts and is_number(thing[1]) and 0 <= thing[1] < len(plan.scripts[thing[0]])


def is_so_at(plan, state, claim):
    """Whether a CLAIM, other than "same" and "ahead", is so at this END."""
    word = claim[0]
    if word == "clock":
        return state[0] == claim[1]
    if word == "takes":
        return is_taken(plan, state, claim[1])
    if word == "late":
        return told_of(plan, state, claim[1]) == "late"
    if word == "gets":
        return entry_of(plan, state, claim[1]) == ("got", claim[2])
    row = row_at(plan, state, claim[1])
    if word == "fails":
        return row[STATUS] == "failed" and row[WORDS] == claim[2]
    return row[STATUS] == STATUSES[word]


def told_of(plan, state, mark):
    """The word of the ENTRY of the STEP of this MARK, None if it has none."""
    entry = entry_of(plan, state, mark)
    return entry[0] if entry is not None else None


def bad_ends(web, claim):
    """The places of the ends at which a CLAIM, other than "same" and "ahead", is not so."""
    return [at for at in end_places(web) if not is_so_at(web.plan, web.rows[at], claim)]


def bad_turns(web, claim):
    """The pairs of places of the turns that make an "ahead" not so."""
    return [pair for pair in turns_taking(web, claim[2]) if not is_taken(web.plan, web.rows[pair[0]], claim[1])]


def stands_on(web, claim):
    """Whether a CLAIM is so in each whole run of the web, an "ahead" by the turns that the web has."""
    if claim[0] == "same":
        return has_one_end(web)
    if claim[0] == "ahead":
        return bad_turns(web, claim) == []
    return bad_ends(web, claim) == []


def is_so_behind(run, claim):
    """Whether an "ahead" is so as far as these turns go; any other CLAIM is."""
    taken = numbered(run)
    if claim[0] != "ahead" or claim[2] not in taken:
        return True
    return claim[1] in taken[:taken.index(claim[2])]


def standing_of(web, run, claims):
    """Those of some CLAIMS that are CLAIMS of the HOUSE and so in all whole runs that begin with this run.

    The web is that of the STATE behind the run.
    """
    return tuple([
        claim for claim in claims
        if is_claim_of(web.plan, claim) and is_so_behind(run, claim) and stands_on(web, claim)
    ])
