"""STATES told anew: by other names of tasks, and by other numbers of STEPS."""

MARKED_WORDS = ("got", "heard", "stopped")


def retold(state, news):
    """The STATE by new MARKS; news tells for each task and each number from 0 the new task and number."""
    clock, stands, lanes, signs = state
    return (
        clock,
        tuple(sorted([retold_row(row, news) for row in stands])),
        tuple([(queue, tuple([news[mark] for mark in lying]), puts) for queue, lying, puts in lanes]),
        tuple([(signal, new_mark(mark, news)) for signal, mark in signs]),
    )


def retold_row(row, news):
    """The row of a task in the stands by new MARKS."""
    task, status, number, starter, held, words, diary = row
    name, many = news[(task, number)]
    entries = tuple([retold_entry(task, entry, news) for entry in diary])
    return (name, status, many, new_mark(starter, news), new_mark(held, news), words, entries)


def retold_entry(task, entry, news):
    """The ENTRY in the diary of this task by new MARKS."""
    if entry[0] in MARKED_WORDS:
        return (entry[0], news[entry[1]])
    if entry[0] == "late":
        return (entry[0], news[(task, entry[1])][1])
    return entry


def new_mark(mark, news):
    """The new MARK in the place of this one, () for none."""
    return news[mark] if mark != () else ()


def counted_anew(kept):
    """The new numbers of the STEPS of each task, and of how many there are, those not kept left out.

    kept tells for each task, STEP by STEP, whether it is kept. What is left out is no STEP that a MARK may tell.
    """
    news = {}
    for task in kept:
        many = 0
        news[(task, 0)] = (task, 0)
        for number, is_kept in enumerate(kept[task]):
            many += 1 if is_kept else 0
            news[(task, number + 1)] = (task, many)
    return news
