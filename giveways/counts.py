"""Numbers of runs over all STATES of a small HOUSE, and the STATES from which only one end is left."""

from giveways.webs import end_places


def numbers_on(web):
    """For each STATE how many whole runs go on from it."""
    many = [0] * len(web.rows)
    for at in reversed(range(len(web.rows))):
        many[at] = sum([many[to] for task, to in web.onward[at]]) if web.onward[at] else 1
    return many


def numbers_of_runs(web):
    """For each STATE how many runs lead to it."""
    many = [1] + [0] * (len(web.rows) - 1)
    for at, onward in enumerate(web.onward):
        for task, to in onward:
            many[to] += many[at]
    return many


def sole_ends(web):
    """For each STATE the place of its only end, None if several ends are left."""
    sole = [None] * len(web.rows)
    for at in end_places(web):
        sole[at] = at
    for at in reversed(range(len(web.rows))):
        lasting = [sole[to] for task, to in web.onward[at]]
        if len(set(lasting)) == 1:
            sole[at] = lasting[0]
    return sole
