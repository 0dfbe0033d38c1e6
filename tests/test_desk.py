"""[16] A desk: requests, replies and errors, how ENTRIES, EDITS and CLAIMS are written, and a Board beside a desk."""

import unittest

from giveways.board import Board
from giveways.desk import claim_from, claim_text, edit_from, edit_text, entry_text, is_request, replies
from giveways.edits import is_edit
from giveways.errors import BadLine, BadText, HouseError
from giveways.houses import after, diary_of, ready, states
from giveways.lanes import lying, waits
from giveways.scripts import all_marks, is_house, queue_names, task_names
from giveways.texts import house_text, marks_text, script_text
from tests.made import Refusing, Row, built, listed, made_house, made_run, odd_things
from tests.plain import Play, whole_plays
from tests.test_board import NAMES, tiny_house
from tests.test_claims import claims_of
from tests.test_edits import edits_of

ENTRIES = {
    ("put", 0): "put 0", ("put", 12): "put 12", ("got", ("ann", 3)): "got ann 3", ("heard", ("b", 0)): "heard b 0",
    ("late", 7): "late 7", ("joined", "ended", ()): "joined ended", ("joined", "failed", ("v", "w")): "joined failed v w",
    ("joined", "stopped", ()): "joined stopped", ("closed", ()): "closed", ("closed", ("a", "b", "c")): "closed a b c",
    ("stopped", ("cy", 10)): "stopped cy 10",
}
EDITS = {
    ("in", "a", 0, ("until", 5)): "in a 0 until 5", ("in", "a", 10, ("get", "q", ())): "in a 10 get q",
    ("for", "b", 2, ("get", "q", 3)): "for b 2 get q 3", ("for", "b", 2, ("in",)): "for b 2 in", ("out", "b", 0): "out b 0",
    ("task", "b", "", (), ()): "task b: -", ("task", "b", "g", (), ("a", 0)): "task b in g by a 0: -",
    ("task", "b", "", (("put", "q"), ("join", "a", 4)), ("a", 12)): "task b by a 12: put q, join a 4",
    ("task", "b", "g", (("give",),), ()): "task b in g: give", ("task", "in", "by", (("in",), ("out",)), ("by", 3)):
    "task in in by by by 3: in, out", ("gone", "task"): "gone task", ("apart", "g"): "apart g", ("room", "q", 0): "room q 0",
    ("room", "room", 10 ** 6): "room room 1000000", ("group", "g", "h", ("close", "g"), 2): "group g of h 2 close g",
    ("group", "of", "of", ("catch", "of"), 0): "group of of of 0 catch of",
}
CLAIMS = {
    ("same",): "same", ("ends", "ann"): "ends ann", ("stops", "a"): "stops a", ("waits", "waits"): "waits waits",
    ("fails", "ann", ("v", "w")): "fails ann v w", ("fails", "a", ("fails",)): "fails a fails", ("takes", ("a", 1)): "takes a 1",
    ("late", ("ann", 0)): "late ann 0", ("ahead", ("a", 0), ("b", 1)): "ahead a 0, b 1", ("gets", ("bob", 1), ("ann", 0)):
    "gets bob 1, ann 0", ("clock", 3): "clock 3", ("clock", 0): "clock 0",
}
BAD_EDITS = ("", "-", "task", "group", "group g", "group g of", "group g of h", "group g of H 0 close g", "group g of h 0 close",
             "out", "room", "apart", "in", "in a", "in a 0", "in a 0 ", "in a 00 give", "in a -1 give", "in a 0 give ", " in a 0 give", "in  a 0 give",
             "in a 0  give", "in A 0 give", "in a 0 put", "in a 0 give, give", "in a x give", "out a", "out a 0 0", "out a 01", "out  a 0",
             "for a 0", "for a 0 go", "task b", "task b:", "task b: ", "task b : -", "task b:-", "task b in: -", "task b in g by: -",
             "task b in g by a: -", "task b by a 0 in g: -", "task b by a 00: -", "task b in G: -", "task: -", "task : -", "task b c: -",
             "task b: give,put q", "task b: give; task c: give", "task b: put", "task b:  give", "task b in g  by a 0: -", "gone", "gone a b",
             "gone ", "gone abcdefghi", "apart", "apart 7", "group g of h 0 give", "group g of h 0 close h", "group g of h close g 0",
             "group g h 0 close g", "group g of h 0", "group g of h 00 close g", "group g in h 0 close g", "group G of h 0 close g", "room q",
             "room q -1", "room q 1 ", "room q 1 1", "room 1 q", "room q 007", "same", "hear s", "in a 0 get q 1 1", "gone a\n", "task b: -\n")
BAD_CLAIMS = ("", "-", "same ", " same", "same a", "ends", "ends ", "ends a b", "ends A", "fails a", "fails", "fails a ", "fails a v  w",
              "fails a v, w", "fails a V", "takes a", "takes a 00", "takes a 0 0", "takes a 0, b 1", "late", "late a x", "ahead a 0",
              "ahead a 0,b 1", "ahead a 0, b 1, c 2", "ahead a 0 b 1", "ahead a 0, b", "ahead -", "gets a 0, ", "gets", "clock", "clock -1",
              "clock 03", "clock a", "clock 3 3", "goes a", "goes 3", "ends 3", "clocks 3", "takes", "fails a v w 0", "same\n", "ends a\n")


class Written(Refusing, unittest.TestCase):
    def test_entries(self):
        for entry, text in ENTRIES.items():
            self.assertEqual(entry_text(entry), text)
            self.assertEqual(entry_text(listed(entry)), text)

    def test_edits_there_and_back(self):
        for edit, text in EDITS.items():
            self.assertTrue(is_edit(edit))
            self.assertEqual((edit_text(edit), edit_text(listed(edit))), (text, text))
            self.assertEqual(edit_from(text), edit)
        for text in BAD_EDITS:
            self.refused(BadText, 0, edit_from, text)

    def test_claims_there_and_back(self):
        for claim, text in CLAIMS.items():
            self.assertEqual((claim_text(claim), claim_text(listed(claim))), (text, text))
            self.assertEqual(claim_from(text), claim)
        for text in BAD_CLAIMS:
            self.refused(BadText, 0, claim_from, text)

    def test_words_in_another_order(self):
        self.assertEqual(claim_from("fails a w v"), ("fails", "a", ("w", "v")))
        self.assertEqual(claim_from("fails a v v"), ("fails", "a", ("v", "v")))
        self.assertEqual(claim_from("ahead a 0, a 0"), ("ahead", ("a", 0), ("a", 0)))
        self.assertEqual(claim_text(("fails", "a", ("w", "v"))), "fails a w v")

    def test_a_script_that_is_none(self):
        self.assertEqual(edit_from("task b: out, in"), ("task", "b", "", (("out",), ("in",)), ()))
        self.assertEqual(edit_from("task b in g: in"), ("task", "b", "g", (("in",),), ()))

    def test_long_numbers(self):
        number = int("123456789" * 4 + "0999")
        self.assertEqual(claim_from("clock " + "1234567890" * 350), ("clock", int("1234567890" * 350)))
        self.assertEqual(claim_from("clock 1" + "0" * 2000), ("clock", 10 ** 2000))
        for text in (f"clock {number}", f"takes a {number}", f"gets a {number}, b 0"):
            self.assertEqual(claim_text(claim_from(text)), text)
        for text in (f"in a {number} until {number}", f"room q {number}", f"task a by b {number}: -"):
            self.assertEqual(edit_text(edit_from(text)), text)

    def test_along_made_houses(self):
        seen = set()
        for number in range(60):
            house = made_house(number)
            for edit in edits_of(house, number):
                self.assertEqual(edit_from(edit_text(edit)), edit)
                self.assertTrue(is_request("edit x " + edit_text(edit)))
                seen.add(edit[0])
            for state in states(house, made_run(house, number))[-1:]:
                for row in state[1]:
                    for entry in row[6]:
                        self.assertEqual(entry_text(entry).split(" "), [str(part) for part in leaves(entry)])
            marks = all_marks(house)
            for claim in claims_of(house, []) if len(marks) < 8 else ():
                self.assertEqual(claim_from(claim_text(claim)), claim)
                self.assertTrue(is_request("keep x " + claim_text(claim)))
        self.assertEqual(len(seen), 8)


def leaves(worth):
    return [leaf for part in worth for leaf in (leaves(part) if isinstance(part, tuple) else [part])]


RIGHT = (["names", "same", "alike", "deeds", "undo"]
         + [f"{word} x" for word in ("drop", "house", "run", "ready", "claims", "standing", "lost", "sure", "clock", "waits")]
         + [f"{word} x a" for word in ("rename", "turn", "lying", "diary")] + ["rename x x", "run run", "lying lying lying"]
         + ["put x task a: give", "put x -", "put x room q 1", "put x task a: out", "put x task a: in, get q 3; room q 2",
            "put x group g of a", "put put task put: put put", "put x task a in g: -; task b: -; group g of b; room q 9"])
WRONG = ("", " ", "names ", " names", "names x", "same x", "alike x", "deeds 1", "undo undo", "drop", "drop ", "drop x y", "drop X",
         "drop abcdefghi", "rename x", "rename x y z", "rename x  y", "turn x", "turn x 1", "house", "house x y", "run", "ready", "clock",
         "clock x 1", "waits", "lying x", "lying x q 1", "diary x", "diary x a 1", "put", "put x", "put x ", "put x task a", "put x task a:",
         "put x task a: put", "put x task a: give;task b: -", "put x task b: -; task a: -", "put x task a: -; task a: -", "put x room q 0",
         "put x room q 1; task a: -", "put x group g of a; task a: -", "put x task a: give ", "put  x task a: give", "put X task a: give",
         "put task a: give", "edit x", "edit x ", "keep x", "keep", "free x", "free x ", "edit same", "keep x fails a", "free x clock 01",
         "Names", "name", "puts x task a: give", "undo\n", "names\nnames", "names\r", "house x\n", "say x", "twin x", "mended x gone a",
         "spoilt x gone a", "len", "put x house -", "put x task a in: give", "put x group g in a", "house ann 0")


class Requests(unittest.TestCase):
    def test_right_and_wrong(self):
        for line in RIGHT:
            self.assertIs(is_request(line), True, line)
        for line in WRONG:
            self.assertIs(is_request(line), False, line)
        for thing in odd_things():
            self.assertIs(is_request(thing), False, thing)
        self.assertFalse(is_request(["names"]))
        self.assertFalse(is_request(("names",)))

    def test_edits_and_claims(self):
        for text in EDITS.values():
            self.assertTrue(is_request("edit x " + text), text)
        for text in BAD_EDITS:
            self.assertFalse(is_request("edit x " + text), text)
        for word in ("keep", "free"):
            for text in [*CLAIMS.values(), "fails a w v", "fails a v v", "ahead a 0, a 0"]:
                self.assertTrue(is_request(f"{word} x {text}"), text)
            for text in BAD_CLAIMS:
                self.assertFalse(is_request(f"{word} x {text}"), text)

    def test_of_any_length(self):
        long = "9" * 6000
        for line in (f"keep x clock {long}", f"edit x in a {long} until {long}", f"put x room q {long}", f"free x gets a {long}, b 0",
                     "put x task a: " + ", ".join(["give"] * 5000), "keep x fails a" + " w" * 5000):
            self.assertTrue(is_request(line))
            self.assertFalse(is_request(line + " "))
        self.assertFalse(is_request(f"keep x clock 0{long}"))
        self.assertFalse(is_request(f"turn x {'a' * 5000}"))
        self.assertFalse(is_request("names" * 5000))

    def test_one_sign_changed(self):
        for line in RIGHT:
            for at in range(len(line) + 1):
                self.assertFalse(is_request(line[:at] + "  " + line[at:]), line)
                self.assertFalse(is_request(line[:at] + "A" + line[at:]), line)
            self.assertFalse(is_request(line + " "))
            self.assertFalse(is_request(" " + line))


class Lines(Refusing, unittest.TestCase):
    def test_no_requests(self):
        good = ["put x task a: give", "names", "turn x a"]
        for at in range(4):
            rows = good[:at] + ["nothing"] + good[at:]
            self.refused(BadLine, at, replies, "\n".join(rows))
            self.refused(BadLine, at, replies, "\n".join(rows + ["nothing"]))
            self.refused(BadLine, at, replies, "\n".join(good[:at] + [""] + good[at:]))
        self.refused(BadLine, 1, replies, "names\n")
        self.refused(BadLine, 0, replies, "\nnames")
        self.refused(BadLine, 0, replies, "\n")
        self.refused(BadLine, 0, replies, " ")
        self.refused(BadLine, 1, replies, "undo\n\nnames")
        self.refused(BadLine, 2, replies, "drop x\nput x task a: in\nput x task a: go\nnames ")

    def test_the_empty_text_and_new_boards(self):
        self.assertEqual(replies(""), [])
        text = "put x task a: give\nnames\ndeeds"
        first = replies(text)
        self.assertEqual(first, ["done", "x", "1"])
        first.append("more")
        self.assertEqual(replies(text), ["done", "x", "1"])


class Replies(unittest.TestCase):
    def test_where_there_are_no_parts(self):
        self.assertEqual(replies("names\nsame\nalike\ndeeds"), ["-", "-", "-", "0"])
        rows = ["put x task a: -; room q 1"] + [f"{word} x" for word in ("run", "ready", "claims", "standing", "lost", "sure", "waits")]
        self.assertEqual(replies("\n".join(rows + ["lying x q", "diary x a", "clock x", "house x"])),
                         ["done"] + ["-"] * 9 + ["0", "task a: -; room q 1"])

    def test_each_request(self):
        text = """put x task a: put q, put r, give; task b: get q, join a 9; task h: start m, close g; task m in g: get s; group g of h; room r 1
put y task a: set s; task b: set s
names
same
alike
run x
ready x
turn x a
turn x a
turn x h
run x
lying x q
lying x r
waits x
diary x a
diary x b
turn x b
waits x
diary x b
clock x
deeds
house y
rename y z
names
keep z same
keep z ends a
keep z clock 0
claims z
standing z
lost z
sure z
turn z a
sure z
edit z out b 0
standing z
lost z
run z
free z same
claims z
drop z
names
undo
names
deeds"""
        expected = ["done", "done", "x y", "x", "x, y", "-", "a h", "done", "done", "done", "a a h", "a 0", "a 1",
                    "h group m, m item s", "put 0, put 0", "-", "done", "b over a, h group m, m item s", "got a 0", "0", "6",
                    "task a: set s; task b: set s", "done", "x z", "done", "done", "done", "clock 0; ends a; same", "clock 0; ends a", "-",
                    "clock 0; ends a", "done", "clock 0; ends a; same", "done", "clock 0; ends a; same", "-", "-", "done",
                    "clock 0; ends a", "done", "x", "done", "x z", "13"]
        self.assertEqual(replies(text), expected)

    def test_wait_of_each_kind(self):
        text = ("put x task a: put q, put q; task b: get r; task c: hear s; task d: join a; task e: until 50, give; task h: start m, start n, "
                "catch g; task m in g: get r; task n in g: get r; group g of h; room q 1\nturn x a\nturn x h\nturn x h\nwaits x\nclock x")
        self.assertEqual(replies(text)[-2:], ["a room q, b item r, c signal s, d over a, h group m n, m item r, n item r", "50"])
        self.assertEqual(replies("put x task a: until 4; task b: give\nwaits x\nturn x b\nwaits x\nclock x"),
                         ["done", "a clock 4", "done", "-", "4"])

    def test_each_error(self):
        house = "task a: put q; task b: get q"
        rows = (("put x " + house, "Known"), ("drop z", "NoHouse"), ("rename x y", "Known"), ("rename z x", "NoHouse"), ("edit x out zed 0", "NoTask"),
                ("edit x out a 9", "NoStep"), ("edit x apart g", "NoGroup"), ("edit x task c in g: -", "NoGroup"), ("edit x task a: -", "Known"),
                ("edit x in a 0 in", "Unfit"), ("turn x zed", "NoTask"), ("turn x b", "NotReady"), ("keep x ends zed", "Unfit"),
                ("keep x fails a w v", "Unfit"), ("keep x fails a v v", "Unfit"), ("free x same", "Unfit"), ("keep x ahead a 0, a 0", "Unfit"),
                ("lying x z", "NoQueue"), ("diary x z", "NoTask"), ("diary z z", "NoHouse"), ("lying z z", "NoHouse"), ("house z", "NoHouse"),
                ("run z", "NoHouse"), ("ready z", "NoHouse"), ("claims z", "NoHouse"), ("standing z", "NoHouse"), ("lost z", "NoHouse"),
                ("sure z", "NoHouse"), ("clock z", "NoHouse"), ("waits z", "NoHouse"), ("turn z zed", "NoHouse"), ("keep z ends zed", "NoHouse"),
                ("keep z fails a w v", "NoHouse"), ("free z same", "NoHouse"), ("edit z out zed 99", "NoHouse"))
        for line, name in rows:
            told = replies(f"put x {house}\nput y task a: -\n{line}\nhouse x\nnames\ndeeds")
            self.assertEqual(told, ["done", "done", "refused " + name, house, "x y", "2"], line)
        self.assertEqual(replies("undo\nput x task a: -\nundo\nundo"), ["refused NothingDone", "done", "done", "refused NothingDone"])

    def test_written_right_and_none(self):
        for line in ("put x -", "put x task a: out", "put y task a: in", "put y room q 1", "put y task a: join b", "put y task a in g: -",
                     "put y task a: close g; group g of a; group h of a", "put y group g of a"):
            self.assertEqual(replies("put x task a: -\n" + line + "\nnames\ndeeds"), ["done", "refused Unfit", "x", "1"], line)
        for line in ("edit x task a: out", "edit z task b: in", "edit x task zed in g by zed 99: out, in"):
            self.assertEqual(replies("put x task a: -\n" + line)[1], "refused Unfit", line)
        self.assertEqual(replies("put x task a: -\nedit z task b: -\nedit x task a: -"), ["done", "refused NoHouse", "refused Known"])

    def test_fails_in_order(self):
        text = "put x task a: fail w; task h: start m, close g; task m in g: fail v; group g of h\nkeep x fails a w\nkeep x fails h v\nclaims x\nsure x"
        self.assertEqual(replies(text), ["done", "done", "done", "fails a w; fails h v", "fails a w; fails h v"])


def texts(worths, sign):
    return sign.join(worths) or "-"


class BesideABoard(unittest.TestCase):
    """The same deeds on a Board and at a desk, and all that a desk tells of it."""

    def line_of(self, row, board):
        name = row.one_of((*board.names, *board.names, *NAMES))
        house = board[name] if name in board else None
        word = row.one_of(("put", "put", "drop", "rename", "edit", "edit", "turn", "turn", "turn", "keep", "keep", "free", "undo"))
        if word == "put":
            return word, name, tiny_house(row.below(12))
        if word in ("undo", "drop"):
            return (word, name)[:1 + (word == "drop")]
        if word == "rename":
            return word, name, row.one_of(NAMES)
        if word == "edit":
            edits = [edit for edit in edits_of(house or tiny_house(3), row.below(99)) if edit[0] != "task" or len(edit[3]) < 2]
            return word, name, row.one_of(edits)
        if word == "turn":
            names = ready(house, after(house, board.run(name))) if house else ()
            return word, name, row.one_of(names + names + ("ann", "zed"))
        kept = board.claims(name) if house else ()
        return word, name, row.one_of((*kept, *claims_of(house or tiny_house(3), [])))

    def text_of(self, word, *args):
        if word == "put":
            return f"put {args[0]} {house_text(args[1])}"
        if word == "edit":
            return f"edit {args[0]} {edit_text(args[1])}"
        if word in ("keep", "free"):
            return f"{word} {args[0]} {claim_text(args[1])}"
        return " ".join((word, *args))

    def asked(self, board):
        """Each request that tells something of this Board, and its reply."""
        yield "names", texts(board.names, " ")
        yield "same", texts(board.same(), " ")
        yield "alike", texts([" ".join(lot) for lot in board.alike()], ", ")
        yield "deeds", str(board.deeds)
        for name in board.names:
            house, run = board[name], board.run(name)
            state = after(house, run)
            yield f"house {name}", house_text(house)
            yield f"run {name}", texts(run, " ")
            yield f"ready {name}", texts(ready(house, state), " ")
            yield f"clock {name}", str(state[0])
            yield f"waits {name}", texts([" ".join(map(str, leaves(pair))) for pair in waits(house, run)], ", ")
            for word in ("claims", "standing", "lost", "sure"):
                yield f"{word} {name}", texts([claim_text(claim) for claim in getattr(board, word)(name)], "; ")
            for queue in queue_names(house):
                yield f"lying {name} {queue}", marks_text(lying(house, run, queue))
            for task in task_names(house):
                yield f"diary {name} {task}", texts([entry_text(entry) for entry in diary_of(state, task)], ", ")

    def test_side_by_side(self):
        refused = done = 0
        for number in range(40):
            row, board, lines, expected = Row(number + 40), Board(), [], []
            for _ in range(20):
                deed, *args = self.line_of(row, board)
                if deed == "put" and len(board) == 4:
                    continue
                twin = board.twin()
                try:
                    getattr(board, deed)(*args)
                    expected.append("done")
                except HouseError as error:
                    expected.append("refused " + type(error).__name__)
                heavy = [name for name in board.names if not is_light(board[name])]
                if heavy:
                    board = twin
                    expected.pop()
                    continue
                lines.append(self.text_of(deed, *args))
                refused += expected[-1] != "done"
                done += expected[-1] == "done"
            told = list(self.asked(board))
            text = "\n".join(lines + [line for line, _ in told])
            for line in text.split("\n"):
                self.assertTrue(is_request(line), line)
            self.assertEqual(replies(text), expected + [reply for _, reply in told])
        self.assertGreater(min(refused, done), 100)

    def test_scripts_are_written_as_in_texts(self):
        for number in range(80):
            house = made_house(number)
            task, group, steps = house[0][-1]
            self.assertEqual(edit_text(("task", task, group, steps, ())), f"task {task}{' in ' * bool(group)}{group}: {script_text(steps)}")
            self.assertEqual(replies(f"put x {house_text(house)}\nhouse x"), ["done", house_text(house)])
            self.assertTrue(is_house(house))

    def test_a_clock_that_goes_on(self):
        house = built({"a": [("until", 5), ("give",)], "b": [("give",)]})
        self.assertEqual(Play(house).clock, 0)
        self.assertEqual(replies(f"put x {house_text(house)}\nclock x\nturn x b\nclock x"), ["done", "0", "done", "5"])


def is_light(house):
    return sum(len(row[2]) for row in house[0]) <= 9 and len(whole_plays(house, 2000) or ()) > 0
