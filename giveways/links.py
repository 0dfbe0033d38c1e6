"""Whether the tasks and groups of a HOUSE hang together as a HOUSE demands."""

from giveways.steps import CLOSING_WORDS, TASK_WORDS, naming_marks


def hangs_together(tasks, groups):
    """Whether these tasks and groups, well shaped by themselves, make a HOUSE."""
    if not names_stand(tasks, groups):
        return False
    closers = sole_marks(tasks, CLOSING_WORDS)
    starters = sole_marks(tasks, ("start",))
    if closers is None or starters is None:
        return False
    hosts = dict(groups)
    # Hosts start the tasks of their groups: a host within its own group would be a ring of starts.
    return (
        hosts_close(hosts, closers)
        and hosts_start(tasks, hosts, closers, starters)
        and not has_ring({name: starters[name][0] for name in starters})
    )


def names_stand(tasks, groups):
    """Whether all that is named is there, and no STEP names its own task."""
    known = {row[0]: True for row in tasks}
    known_groups = {row[0]: True for row in groups}
    for name, mark in naming_marks(tasks, TASK_WORDS):
        if name not in known or name == mark[0]:
            return False
    named = [row[1] for row in tasks if row[1] != ""]
    named.extend([name for name, mark in naming_marks(tasks, CLOSING_WORDS)])
    return all([group in known_groups for group in named])


def sole_marks(tasks, words):
    """For each name the MARK of the one STEP of these words that names it; None if two do."""
    told = {}
    for name, mark in naming_marks(tasks, words):
        if name in told:
            return None
        told[name] = mark
    return told


def hosts_close(hosts, closers):
    """Whether each group is closed or caught by a STEP of its host, which so is one of the tasks."""
    return all([group in closers and closers[group][0] == hosts[group] for group in hosts])


def hosts_start(tasks, hosts, closers, starters):
    """Whether each task of a group is started by its host, ahead of the closing STEP."""
    for name, group, script in tasks:
        if group == "":
            continue
        if name not in starters:
            return False
        host, number = starters[name]
        if host != hosts[group] or number > closers[group][1]:
            return False
    return True


def has_ring(above):
    """Whether some name comes back to itself by the rows of names above it."""
    walked = {}
    for name in above:
        place = name
        while place in above and place not in walked:
            walked[place] = name
            place = above[place]
        if place in above and walked[place] == name:
            return True
    return False
