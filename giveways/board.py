"""A Board: HOUSES under NAMES, each with a run so far and kept CLAIMS, and deeds that can be taken back."""

from giveways.checks import check_task
from giveways.claims import checked_claim
from giveways.clash import has_one_end
from giveways.edits import edited
from giveways.errors import Known, NoHouse, NothingDone, Unfit
from giveways.plans import Plan
from giveways.runs import check_ready, played
from giveways.shapes import is_just, tupled
from giveways.verdicts import is_claim_of, standing_of
from giveways.webs import ends_of_plan, web_from, web_of


class Board:
    """HOUSES under NAMES; a row has a HOUSE, its run so far and its kept CLAIMS, and is never changed."""

    def __init__(self):
        self._rows = {}
        # The rows ahead of each deed that can be taken back.
        self._past = []

    @property
    def names(self):
        """The set of the NAMES."""
        return tuple(sorted(self._rows))

    @property
    def deeds(self):
        """How many deeds can be taken back."""
        return len(self._past)

    def __len__(self):
        return len(self._rows)

    def __contains__(self, x):
        return x in self._rows

    def __getitem__(self, at):
        if at not in self._rows:
            raise NoHouse(at)
        return self._rows[at][0]

    def __iter__(self):
        raise TypeError("a Board is not iterated over")

    def __eq__(self, other):
        return isinstance(other, Board) and self._rows == other._rows

    def put(self, name, house):
        """Put a HOUSE under a new NAME."""
        if name in self._rows:
            raise Known(name)
        self._do({**self._rows, name: (tupled(house), (), ())})

    def drop(self, name):
        """Let the HOUSE of this NAME go."""
        self._row(name)
        self._do({other: self._rows[other] for other in self._rows if other != name})

    def rename(self, name, new):
        """Give the HOUSE of this NAME a new one."""
        self._row(name)
        if new != name and new in self._rows:
            raise Known(new)
        self._do({new if other == name else other: self._rows[other] for other in self._rows})

    def edit(self, name, edit):
        """Change the HOUSE of this NAME by an EDIT."""
        house, _, claims = self._row(name)
        self._do({**self._rows, name: (edited(house, edit), (), claims)})

    def turn(self, name, task):
        """Take a further turn in the run so far."""
        house, run, claims = self._row(name)
        plan = Plan(house)
        check_task(plan, task)
        check_ready(plan, played(plan, run)[-1], task)
        self._do({**self._rows, name: (house, (*run, task), claims)})

    def keep(self, name, claim):
        """Keep a CLAIM of the HOUSE of this NAME."""
        house, run, claims = self._row(name)
        told = checked_claim(Plan(house), claim)
        self._do({**self._rows, name: (house, run, tuple(sorted(set([*claims, told]))))})

    def free(self, name, claim):
        """Keep a CLAIM no more."""
        house, run, claims = self._row(name)
        others = tuple([one for one in claims if not is_just(tupled(claim), one)])
        if others == claims:
            raise Unfit()
        self._do({**self._rows, name: (house, run, others)})

    def undo(self):
        """Take back the last deed that is not taken back."""
        if self._past == []:
            raise NothingDone()
        self._rows = self._past.pop()

    def twin(self):
        """An equal Board with the same deeds to be taken back, which shares nothing with this one."""
        other = Board()
        other._rows = dict(self._rows)
        other._past = [dict(rows) for rows in self._past]
        return other

    def run(self, name):
        """The run so far of the HOUSE of this NAME."""
        return self._row(name)[1]

    def claims(self, name):
        """The set of the kept CLAIMS."""
        return self._row(name)[2]

    def standing(self, name):
        """The set of the kept CLAIMS that stand."""
        house, _, claims = self._row(name)
        return standing_of(web_of(Plan(house)), (), claims)

    def lost(self, name):
        """The set of the kept CLAIMS that are none of the HOUSE."""
        house, _, claims = self._row(name)
        plan = Plan(house)
        return tuple([claim for claim in claims if not is_claim_of(plan, claim)])

    def sure(self, name):
        """The set of the kept CLAIMS that stand if all whole runs begin with the run so far."""
        house, run, claims = self._row(name)
        plan = Plan(house)
        return standing_of(web_from(plan, played(plan, run)[-1]), run, claims)

    def spoilt_by(self, name, edit):
        """The set of the kept CLAIMS that stand, and would not behind this EDIT."""
        later = self._standing_behind(name, edit)
        return tuple([claim for claim in self.standing(name) if claim not in later])

    def mended_by(self, name, edit):
        """The set of the kept CLAIMS that do not stand, and would behind this EDIT."""
        later = self._standing_behind(name, edit)
        now = self.standing(name)
        return tuple([claim for claim in later if claim not in now])

    def same(self):
        """The set of the NAMES of the HOUSES that tell the same FOR ALL orders."""
        return tuple([name for name in self.names if has_one_end(web_of(Plan(self._rows[name][0])))])

    def alike(self):
        """The set of the sets of NAMES of HOUSES of which the same STATES can be told."""
        lots = {}
        for name in self.names:
            ends = tuple(sorted(ends_of_plan(Plan(self._rows[name][0]))))
            lots[ends] = [*lots.get(ends, []), name]
        return tuple(sorted([tuple(lot) for lot in lots.values()]))

    def _row(self, name):
        """The HOUSE of this NAME, its run so far and its kept CLAIMS."""
        if name not in self._rows:
            raise NoHouse(name)
        return self._rows[name]

    def _do(self, rows):
        """Let these rows stand, as a deed that can be taken back."""
        self._past.append(self._rows)
        self._rows = rows

    def _standing_behind(self, name, edit):
        """Those of the kept CLAIMS that would stand behind this EDIT."""
        house, _, claims = self._row(name)
        return standing_of(web_of(Plan(edited(house, edit))), (), claims)
