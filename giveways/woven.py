"""Signals put in between STEPS, so that the one comes ahead of the other."""

from giveways.diaries import entries_at
from giveways.play import DIARY
from giveways.scripts import signal_names

LETTERS = "abcdefghijklmnopqrstuvwxyz"


def name_at(number):
    """The name with this place among a, b, .. z, aa, ab, .."""
    name = ""
    number += 1
    while number > 0:
        number -= 1
        name = LETTERS[number % 26] + name
        number //= 26
    return name


def new_signals(house, many):
    """The first names, so many, that no signal of the HOUSE has."""
    known = signal_names(house)
    # As many names as there are signals may be taken: so many more are looked at.
    free = [name_at(number) for number in range(len(known) + many) if name_at(number) not in known]
    return tuple(free[:many])


def woven_rows(house, pairs):
    """For each task its STEPS with those of the pairs put in, each with whether it is the task's own."""
    signals = new_signals(house, len(pairs))
    return {task: woven_row(task, steps, pairs, signals) for task, group, steps in house[0]}


def woven_row(task, steps, pairs, signals):
    """The STEPS of this task with those of the pairs put in, each with whether it is its own."""
    row = []
    for number in range(len(steps) + 1):
        row.extend([(("set", signals[at]), False) for at, pair in enumerate(pairs) if pair[0] == (task, number - 1)])
        row.extend([(("hear", signals[at], ()), False) for at, pair in enumerate(pairs) if pair[1] == (task, number)])
        row.extend([(step, True) for step in steps[number:number + 1]])
    return row


def own_diaries(plan, state, kept):
    """The STATE without the ENTRIES of the STEPS that are not kept."""
    stands = []
    for row in state[1]:
        entries = entries_at(plan, state, row[0])
        own = [entries[number] for number in entries if kept[row[0]][number]]
        # Behind the ENTRIES of STEPS that of a stop may stand.
        stands.append((*row[:DIARY], tuple(own) + row[DIARY][len(entries):]))
    return (state[0], tuple(stands), *state[2:])
