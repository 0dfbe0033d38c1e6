"""[15] A Board: each deed along many made rows of deeds, against plain rows, and what it tells against all whole runs."""

import copy
import unittest

from giveways.board import Board
from giveways.claims import is_claim, stands
from giveways.edits import edited, undone_by
from giveways.errors import HouseError, Known, NoHouse, NoStep, NoTask, NothingDone, NotReady, Unfit
from giveways.houses import ready, after
from tests.made import Refusing, Row, built, listed, small_house
from tests.plain import whole_plays
from tests.test_claims import claims_of, is_so
from tests.test_edits import behind, edits_of

NAMES = ("x", "y", "z", "yard")
WHOLES = {}


def wholes_of(house):
    """The Plays behind all whole runs, None if there are too many."""
    if house not in WHOLES:
        WHOLES[house] = whole_plays(house, 3000)
    return WHOLES[house]


def tiny_house(number):
    """A HOUSE with few runs, so that what comes of EDITS can be walked, too."""
    while True:
        house = small_house(number)
        if sum(len(row[2]) for row in house[0]) <= 7 and len(wholes_of(house) or ()) < 60:
            return house
        number += 97


def standing(house, run, claims):
    """Those of the CLAIMS that are so in each whole run that begins so."""
    plays = [play for play in wholes_of(house) if tuple(play.turns[:len(run)]) == run]
    told = []
    for claim in claims:
        if is_claim(house, claim):
            is_alike = len({play.state() for play in plays}) == 1
            if is_alike if claim == ("same",) else all(is_so(play, claim) for play in plays):
                told.append(claim)
    return tuple(sorted(told))


class Plain:
    """Rows of a Board as plain dicts, and those ahead of each deed."""

    def __init__(self):
        self.rows, self.past = {}, []

    def do(self, deed, *args):
        """The rows behind this deed, or the error that it is refused by, as a pair of its name and its value."""
        rows = {name: dict(row) for name, row in self.rows.items()}
        name = args[0] if args else None
        if deed == "undo":
            if not self.past:
                return ("NothingDone", None)
            self.rows = self.past.pop()
            return None
        if deed == "put":
            if name in rows:
                return ("Known", name)
            rows[name] = {"house": args[1], "run": (), "claims": ()}
        elif name not in rows:
            return ("NoHouse", name)
        elif deed == "drop":
            del rows[name]
        elif deed == "rename":
            if args[1] in rows and args[1] != name:
                return ("Known", args[1])
            rows[args[1]] = rows.pop(name)
        else:
            error = getattr(self, deed)(rows[name], args[1])
            if error:
                return error
        self.past.append(self.rows)
        self.rows = rows
        return None

    def edit(self, row, edit):
        told = behind(row["house"], edit)
        if isinstance(told, str):
            return (told, ...)
        row["house"], row["run"] = told, ()

    def turn(self, row, task):
        if task not in [other[0] for other in row["house"][0]]:
            return ("NoTask", task)
        if task not in ready(row["house"], after(row["house"], row["run"])):
            return ("NotReady", task)
        row["run"] += (task,)

    def keep(self, row, claim):
        if not is_claim(row["house"], claim):
            return ("Unfit", None)
        row["claims"] = tuple(sorted({*row["claims"], claim}))

    def free(self, row, claim):
        if claim not in row["claims"]:
            return ("Unfit", None)
        row["claims"] = tuple(one for one in row["claims"] if one != claim)


class Deeds(Refusing, unittest.TestCase):
    def hold(self, board, plain):
        self.assertEqual(board.names, tuple(sorted(plain.rows)))
        self.assertEqual((len(board), board.deeds), (len(plain.rows), len(plain.past)))
        for name in NAMES:
            self.assertIs(name in board, name in plain.rows)
        for name, row in plain.rows.items():
            self.assertEqual((board[name], board.run(name), board.claims(name)), (row["house"], row["run"], row["claims"]))
            self.assertEqual(board.lost(name), tuple(claim for claim in row["claims"] if not is_claim(row["house"], claim)))

    def made_deed(self, plain, row):
        """A deed and its arguments, told by the row of numbers."""
        deed = row.one_of(("put", "put", "drop", "rename", "edit", "edit", "edit", "turn", "turn", "turn", "keep", "keep", "keep",
                           "keep", "free", "undo", "undo"))
        name = row.one_of((*plain.rows, *plain.rows, *NAMES)) if plain.rows else row.one_of(NAMES)
        house = plain.rows[name]["house"] if name in plain.rows else None
        if deed == "undo":
            return (deed,)
        if deed == "put":
            return (deed, name, tiny_house(row.below(30)))
        if deed == "drop":
            return (deed, name)
        if deed == "rename":
            return (deed, name, row.one_of(NAMES + (name,)))
        if house is None:
            return {"edit": (deed, name, ("out", "a", 0)), "turn": (deed, name, "a"), "keep": (deed, name, ("same",)),
                    "free": (deed, name, ("same",))}[deed]
        if deed == "edit":
            edits = [edit for edit in edits_of(house, row.below(1000)) if self.is_light(house, edit)]
            return (deed, name, row.one_of(edits))
        if deed == "turn":
            return (deed, name, row.one_of(ready(house, after(house, plain.rows[name]["run"])) * 3 + ("a", "ann", "nobody")))
        claims = claims_of(house, wholes_of(house)) + [("ends", "nobody"), ("fails", "ann", ("w", "v"))]
        kept = plain.rows[name]["claims"]
        return (deed, name, row.one_of(kept * 3 + tuple(claims[:2])) if deed == "free" else row.one_of(tuple(claims) + kept))

    def is_light(self, house, edit):
        told = behind(house, edit)
        return isinstance(told, str) or len(wholes_of(told) or ()) in range(1, 200)

    def test_many_deeds(self):
        seen = {}
        for number in range(100):
            row, board, plain = Row(number + 900), Board(), Plain()
            for _ in range(38):
                deed, *args = self.made_deed(plain, row)
                if deed == "put" and len(plain.rows) == 4 and args[0] not in plain.rows:
                    continue
                twin, held = board.twin(), dict(plain.rows)
                error = plain.do(deed, *args)
                shaped = [listed(arg) for arg in args] if row.below(2) else args
                handed = copy.deepcopy(shaped)
                if error is None:
                    self.assertIsNone(getattr(board, deed)(*shaped))
                    self.assertIs(board == twin, {name: tuple(one.values()) for name, one in held.items()}
                                  == {name: tuple(one.values()) for name, one in plain.rows.items()})
                else:
                    with self.assertRaises(HouseError) as caught:
                        getattr(board, deed)(*shaped)
                    self.assertEqual(type(caught.exception).__name__, error[0])
                    if error[1] is not ...:
                        self.assertEqual(list(vars(caught.exception).values()), [] if error[1] is None else [error[1]])
                    self.assertEqual((board, board.deeds), (twin, twin.deeds))
                self.hold(board, plain)
                self.assertEqual(shaped, handed)
                key = (deed, error[0] if error else "done")
                seen[key] = seen.get(key, 0) + 1
            while plain.past:
                plain.do("undo")
                board.undo()
                self.hold(board, plain)
            self.refused(NothingDone, None, board.undo)
            self.assertEqual(board, Board())
        for key in [(deed, "done") for deed in ("put", "drop", "rename", "edit", "turn", "keep", "free", "undo")] + [
                (deed, "NoHouse") for deed in ("drop", "rename", "edit", "turn", "keep", "free")] + [
                ("put", "Known"), ("rename", "Known"), ("turn", "NoTask"), ("turn", "NotReady"), ("keep", "Unfit"), ("free", "Unfit"),
                ("undo", "NothingDone"), ("edit", "NoTask"), ("edit", "NoStep"), ("edit", "Unfit")]:
            self.assertGreater(seen.get(key, 0), 2, key)

    def test_deeds_that_change_nothing(self):
        house = built({"a": [("give",)]})
        board = Board()
        board.put("x", house)
        board.keep("x", ("same",))
        for deed in (("rename", "x", "x"), ("keep", "x", ("same",)), ("edit", "x", ("room", "q", 0)), ("edit", "x", ("for", "a", 0, ("give",)))):
            held = board.twin()
            many = board.deeds
            self.assertIsNone(getattr(board, deed[0])(*deed[1:]))
            self.assertEqual((board, board.deeds), (held, many + 1))
        for many in range(5, -1, -1):
            self.assertEqual(board.claims("x"), (("same",),) if many else ())
            board.undo()
            self.assertEqual(board.deeds, many)
        self.assertNotIn("x", board)

    def test_an_edit_empties_the_run(self):
        board = Board()
        board.put("x", built({"a": [("give",), ("give",)]}))
        board.turn("x", "a")
        board.edit("x", ("room", "q", 0))
        self.assertEqual(board.run("x"), ())
        board.undo()
        self.assertEqual(board.run("x"), ("a",))
        self.refused(NoStep, 9, board.edit, "x", ("out", "a", 9))
        self.assertEqual((board.run("x"), board.deeds), (("a",), 2))


class Tells(unittest.TestCase):
    def boards(self):
        """Boards with one HOUSE, a run so far and kept CLAIMS, some of them none of the HOUSE any more."""
        for number in range(110):
            row, house, back = Row(number), tiny_house(number), []
            board = Board()
            board.put("x", house)
            claims = claims_of(house, wholes_of(house))
            for _ in range(9):
                board.keep("x", row.one_of(claims))
            board.keep("x", ("same",))
            edits = [edit for edit in edits_of(house, number) if not isinstance(behind(house, edit), str)]
            edits = [edit for edit in edits if len(wholes_of(behind(house, edit)) or ()) in range(1, 120)]
            if number % 2 and edits:
                edit = row.one_of(edits)
                board.edit("x", edit)
                back, house = [undone_by(house, edit)], board["x"]
            while ready(house, after(house, board.run("x"))) and row.below(3):
                board.turn("x", row.one_of(ready(house, after(house, board.run("x")))))
            yield board, house, row, back

    def test_standing_lost_sure(self):
        seen = set()
        for board, house, _, _ in self.boards():
            claims, run = board.claims("x"), board.run("x")
            self.assertEqual(board.standing("x"), standing(house, (), claims))
            self.assertEqual(board.sure("x"), standing(house, run, claims))
            self.assertEqual(board.lost("x"), tuple(claim for claim in claims if not is_claim(house, claim)))
            self.assertEqual(board.claims("x"), claims)
            seen |= {"lost"} if board.lost("x") else set()
            seen |= {claim[0] for claim in board.sure("x") if claim not in board.standing("x")}
            seen |= {"not " + claim[0] for claim in claims if claim not in board.sure("x")}
        self.assertLessEqual({"lost", "ahead", "same", "not ahead", "not same", "not takes"}, seen)

    def test_a_turn_never_makes_unsure(self):
        for board, house, row, _ in self.boards():
            sure = set(board.sure("x"))
            while ready(house, after(house, board.run("x"))):
                board.turn("x", row.one_of(ready(house, after(house, board.run("x")))))
                self.assertLessEqual(sure, set(board.sure("x")))
                sure = set(board.sure("x"))
            self.assertTrue(("same",) in sure)

    def test_spoilt_and_mended(self):
        seen = set()
        for board, house, row, back in self.boards():
            held = board.twin()
            claims = board.claims("x")
            for edit in back + list(edits_of(house, row.below(99)))[::7]:
                told = behind(house, edit)
                if isinstance(told, str):
                    for ask in (board.spoilt_by, board.mended_by):
                        with self.assertRaises(HouseError) as caught:
                            ask("x", edit)
                        self.assertEqual(type(caught.exception).__name__, told)
                    continue
                if len(wholes_of(told) or ()) not in range(1, 120):
                    continue
                now, later = standing(house, (), claims), standing(told, (), claims)
                self.assertEqual(board.spoilt_by("x", edit), tuple(claim for claim in now if claim not in later))
                self.assertEqual(board.mended_by("x", listed(edit)), tuple(claim for claim in later if claim not in now))
                seen |= {"spoilt"} if set(now) - set(later) else set()
                seen |= {"mended"} if set(later) - set(now) else set()
                seen |= {"lost, mended"} if set(later) & set(board.lost("x")) else set()
            self.assertEqual((board, board.deeds), (held, held.deeds))
        self.assertEqual(seen, {"spoilt", "mended", "lost, mended"})

    def turn_if_ready(self, board, name):
        names = ready(board[name], after(board[name], ()))
        if names:
            board.turn(name, names[0])

    def test_same_and_alike(self):
        many = set()
        for number in range(40):
            row, board = Row(number), Board()
            for name in NAMES:
                board.put(name, tiny_house(row.below(8)))
                if row.below(2):
                    board.edit(name, ("room", "r", row.below(2)))
                if row.below(3) == 0:
                    self.turn_if_ready(board, name)
            ends = {name: frozenset(play.state() for play in wholes_of(board[name])) for name in NAMES}
            self.assertEqual(board.same(), tuple(sorted(name for name in NAMES if len(ends[name]) == 1)))
            lots = {tuple(sorted(other for other in NAMES if ends[other] == ends[name])) for name in NAMES}
            self.assertEqual(board.alike(), tuple(sorted(lots)))
            many.add(len(lots))
        self.assertGreater(len(many), 2)
        self.assertEqual((Board().same(), Board().alike(), Board().names), ((), (), ()))

    def test_alike_by_what_can_be_told_alone(self):
        board = Board()
        for name, house in (("a", built({"t": [("set", "s")], "u": [("hear", "s", ())]})),
                            ("b", built({"t": [("set", "s")], "u": [("hear", "s", 5)]})),
                            ("c", built({"t": [("set", "s")], "u": [("hear", "s", 0)]}))):
            board.put(name, house)
        self.assertEqual(board.alike(), (("a", "b"), ("c",)))


class Objects(Refusing, unittest.TestCase):
    house = built({"a": [("put", "q")], "b": [("get", "q", ())]})

    def board(self):
        board = Board()
        board.put("x", self.house)
        board.keep("x", ("same",))
        board.turn("x", "a")
        return board

    def test_twins_go_on_apart(self):
        board = self.board()
        twin = board.twin()
        self.assertIsNot(board, twin)
        self.assertTrue(board == twin)
        self.assertFalse(board != twin)
        self.assertEqual(twin.deeds, 3)
        twin.turn("x", "b")
        self.assertFalse(board == twin)
        self.assertTrue(board != twin)
        self.assertEqual((board.run("x"), board.deeds), (("a",), 3))
        twin.undo()
        self.assertEqual(board, twin)
        for many in (2, 1, 0):
            twin.undo()
            self.assertEqual((twin.deeds, board.deeds), (many, 3))
        self.assertEqual((twin, board), (Board(), self.board()))
        board.undo()
        self.assertEqual((board.run("x"), twin.deeds), ((), 0))

    def test_what_is_equal(self):
        board, other = self.board(), self.board()
        other.undo()
        other.turn("x", "a")
        other.rename("x", "x")
        self.assertEqual(board, other)
        self.assertNotEqual(board.deeds, other.deeds)
        for thing in (None, 0, (), {}, "x", object(), self.house, {"x": self.house}):
            self.assertFalse(board == thing)
            self.assertTrue(board != thing)
        for deed in (("drop", "x"), ("rename", "x", "y"), ("free", "x", ("same",)), ("turn", "x", "b"), ("put", "y", self.house),
                     ("edit", "x", ("room", "q", 1)), ("keep", "x", ("clock", 0))):
            far = self.board()
            getattr(far, deed[0])(*deed[1:])
            self.assertNotEqual(board, far)
            far.undo()
            self.assertEqual(board, far)

    def test_it_copies_what_it_is_given(self):
        house, edit, claim = listed(self.house), ["in", "a", 0, ["set", "s"]], ["takes", ["a", 0]]
        board = Board()
        board.put("x", house)
        board.edit("x", edit)
        board.keep("x", claim)
        held = board.twin()
        house[0][0][2].append(["give"])
        edit[3][1] = "t"
        claim[1][1] = 7
        self.assertEqual(board, held)
        self.assertEqual((board["x"], board.claims("x")), (edited(self.house, ("in", "a", 0, ("set", "s"))), (("takes", ("a", 0)),)))
        board.free("x", ["takes", ["a", 0]])
        self.assertEqual(board.claims("x"), ())

    def test_not_iterable_and_no_setters(self):
        board = self.board()
        for call in (iter, list, tuple, sorted):
            with self.assertRaises(TypeError):
                call(board)
        for name in ("names", "deeds"):
            with self.assertRaises(AttributeError):
                setattr(board, name, ())

    def test_by_names(self):
        board = Board()
        board.put(name="x", house=self.house)
        board.keep(name="x", claim=("same",))
        board.free(name="x", claim=("same",))
        board.edit(name="x", edit=("room", "q", 1))
        board.turn(name="x", task="a")
        board.rename(name="x", new="y")
        self.assertEqual((board.run(name="y"), board.claims(name="y"), board.standing(name="y")), (("a",), (), ()))
        self.assertEqual((board.lost(name="y"), board.sure(name="y")), ((), ()))
        self.assertEqual((board.spoilt_by(name="y", edit=("gone", "a")), board.mended_by(name="y", edit=("gone", "a"))), ((), ()))
        board.drop(name="y")
        self.assertEqual(board.deeds, 7)

    def test_no_such_house(self):
        board = self.board()
        bad = ("out", "zed", 9)
        for call, args in ((board.drop, ()), (board.rename, ("x",)), (board.edit, (bad,)), (board.turn, ("zed",)), (board.keep, (("odd",),)),
                           (board.free, (("odd",),)), (board.run, ()), (board.claims, ()), (board.standing, ()), (board.lost, ()),
                           (board.sure, ()), (board.spoilt_by, (bad,)), (board.mended_by, (bad,)), (board.__getitem__, ())):
            self.refused(NoHouse, "no", call, "no", *args)
        self.assertNotIn("no", board)
        self.assertEqual((board, board.deeds), (self.board(), 3))

    def test_refused(self):
        board = self.board()
        board.put("y", self.house)
        self.refused(Known, "x", board.put, "x", self.house)
        self.refused(Known, "y", board.rename, "x", "y")
        self.refused(NoTask, "zed", board.edit, "x", ("out", "zed", 9))
        self.refused(NoTask, "zed", board.spoilt_by, "x", ("out", "zed", 9))
        self.refused(Unfit, None, board.mended_by, "x", ("in", "a", 0, ("in",)))
        self.refused(NoTask, "zed", board.turn, "x", "zed")
        self.refused(NotReady, "a", board.turn, "x", "a")
        self.refused(Unfit, None, board.keep, "x", ("ends", "zed"))
        self.refused(Unfit, None, board.free, "x", ("clock", 0))
        self.refused(Unfit, None, board.keep, "x", ("clock", True))
        self.assertEqual(board.deeds, 4)

    def test_kept_claims_stand_for_themselves(self):
        board = self.board()
        board.keep("x", ("gets", ("b", 0), ("a", 0)))
        self.assertEqual(board.claims("x"), (("gets", ("b", 0), ("a", 0)), ("same",)))
        board.edit("x", ("gone", "b"))
        self.assertEqual((board.lost("x"), board.standing("x")), ((("gets", ("b", 0), ("a", 0)),), (("same",),)))
        self.assertEqual(board.mended_by("x", ("task", "b", "", (("get", "q", ()),), ())), (("gets", ("b", 0), ("a", 0)),))
        self.assertTrue(stands(self.house, ("gets", ("b", 0), ("a", 0))))
        board.free("x", ("gets", ("b", 0), ("a", 0)))
        self.assertEqual(board.claims("x"), (("same",),))
