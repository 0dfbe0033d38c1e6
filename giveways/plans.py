"""What a HOUSE says, put into tables in which a turn looks things up."""

from giveways.scripts import first_tasks, queue_names, signal_names, task_names, tasks_in
from giveways.steps import depths, naming_marks


class Plan:
    """A HOUSE by its tasks, groups, queues and signals."""

    def __init__(self, house):
        rows, groups, rooms = house
        self.tasks = task_names(house)
        self.queues = queue_names(house)
        self.signals = signal_names(house)
        self.first = first_tasks(house)
        self.scripts = {row[0]: row[2] for row in rows}
        self.shields = {row[0]: depths(row[2]) for row in rows}
        self.rooms = dict(rooms)
        self.members = {pair[0]: tasks_in(house, pair[0]) for pair in groups}
        self.wards = {name: self.wards_of(name, groups) for name in self.tasks}
        self.mates = {row[0]: self.mates_of(row[0], row[1]) for row in rows}
        self.hosts = {row[0]: tuple([host for group, host in groups if group == row[1]]) for row in rows}
        self.starters = {name: mark[0] for name, mark in naming_marks(rows, ("start",))}
        self.stand_at = places(self.tasks)
        self.lane_at = places(self.queues)
        self.signal_at = places(self.signals)

    def wards_of(self, task, groups):
        """The tasks of the groups that this task hosts, groups ascending, then tasks."""
        return tuple([name for group, host in groups if host == task for name in self.members[group]])

    def mates_of(self, task, group):
        """The other tasks of the group of this task."""
        return tuple([name for name in self.members.get(group, ()) if name != task])


def places(names):
    """The place of each of these names."""
    return {name: at for at, name in enumerate(names)}
