"""What turns need: swaps of neighbours, which turns stand behind which in all that comes by them, and PARTS."""

from giveways.play import Scene, is_ready, state_behind_turn


def ways_at(plan, state, one, other):
    """The STATES behind the turns of two ready tasks, in both orders; None where the second one is not ready."""
    return (behind_both(plan, state, one, other), behind_both(plan, state, other, one))


def behind_both(plan, state, one, other):
    """The STATE behind the turn of one, then that of the other, None if that one is not ready then."""
    between = state_behind_turn(plan, state, one)
    if not is_ready(Scene(plan, between), other):
        return None
    return state_behind_turn(plan, between, other)


def clash_at(plan, state, one, other):
    """Whether these two, both ready at this STATE, clash."""
    ways = ways_at(plan, state, one, other)
    return None in ways or ways[0] != ways[1]


def is_swap(plan, state, one, other):
    """Whether the turns of one, then of the other, can be taken the other way about, to the same STATE."""
    return one != other and is_ready(Scene(plan, state), other) and not clash_at(plan, state, one, other)


def swap_places(plan, row, choices):
    """The places of the first ones of two neighbours that a swap takes; row has the STATES behind the turns."""
    return tuple([
        at for at in range(len(choices) - 1)
        if is_swap(plan, row[at], choices[at], choices[at + 1])
    ])


def with_swap(choices, place):
    """The CHOICES with the turn at this place and the next one the other way about."""
    return choices[:place] + (choices[place + 1], choices[place]) + choices[place + 2:]


def needs_by_place(plan, row, choices):
    """For each turn of a RUN the set of the places of those that it needs; row has the STATES behind the turns."""
    told = []
    for last in range(len(choices)):
        found = []
        for place in reversed(range(last)):
            is_behind = [place in told[other] for other in found]
            if any(is_behind) or not can_pass(plan, row[place], choices, [place, *found, last]):
                found = [place, *found]
        told.append(tuple(found))
    return told


def can_pass(plan, state, choices, places):
    """Whether the turn at the first of these places can come behind all the others, the last one by a swap.

    All but the last one are known not to need it: so they can be taken ahead of it, and one swap is left.
    """
    for place in places[1:-1]:
        state = state_behind_turn(plan, state, choices[place])
    return is_swap(plan, state, choices[places[0]], choices[places[-1]])


def rests_by_place(told):
    """For each turn the places of those that it needs, without those that another one of these needs."""
    return [tuple([at for at in lot if not any([at in told[other] for other in lot])]) for lot in told]


def parts_by(told):
    """All PARTS, by the needs of the turns."""
    parts = [()]
    for place, lot in enumerate(rests_by_place(told)):
        parts = parts + [(*part, place) for part in parts if all([other in part for other in lot])]
    return parts


def part_with(told, places):
    """The PART with the fewest turns that has these."""
    return tuple(sorted({other for place in places for other in (*told[place], place)}))


def state_at_part(plan, row, choices, part):
    """The STATE behind the turns of a PART alone."""
    state = row[0]
    for place in part:
        state = state_behind_turn(plan, state, choices[place])
    return state


def numbered(choices):
    """The MARKS of the turns of CHOICES: a task takes its STEPS by their numbers."""
    many = {}
    told = []
    for task in choices:
        told.append((task, many.get(task, 0)))
        many[task] = many.get(task, 0) + 1
    return told
