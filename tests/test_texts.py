"""[5] Texts: how STEPS, SCRIPTS, HOUSES, names and MARKS are written and read back."""

import unittest

from giveways.errors import BadText, Unfit
from giveways.houses import marks
from giveways.scripts import is_house, is_script
from giveways.texts import (
    house_from, house_text, marks_from, marks_text, names_from, names_text, script_from, script_text,
)
from tests.made import Row, built, listed, made_house, made_run, small_house

STEPS = {
    "give": ("give",), "put q": ("put", "q"), "get q": ("get", "q", ()), "get q 0": ("get", "q", 0),
    "get q 12": ("get", "q", 12), "set s": ("set", "s"), "hear s": ("hear", "s", ()), "hear s 7": ("hear", "s", 7),
    "start b": ("start", "b"), "join b": ("join", "b", ()), "join b 1000000": ("join", "b", 10 ** 6),
    "until 0": ("until", 0), "until 10": ("until", 10), "cancel b": ("cancel", "b"), "close g": ("close", "g"),
    "catch g": ("catch", "g"), "fail w": ("fail", "w"), "put abcdefgh": ("put", "abcdefgh"), "put put": ("put", "put"),
    "set in": ("set", "in"), "start task": ("start", "task"), "get get 3": ("get", "get", 3),
    "until " + "9" * 40: ("until", int("9" * 40)),
}
WRONG_STEPS = (
    "", " ", "-", "give ", " give", "give q", "give 0", "put", "put ", "put  q", "put q ", " put q", "put q r", "put q 1",
    "put Q", "put q1", "put 1", "put abcdefghi", "put q-", "get", "get 3", "get q  3", "get q 03", "get q 00", "get q -1",
    "get q +1", "get q 1 2", "get q x", "get q 1x", "get q ()", "get q 1.0", "get q 1_0", "get q ", "set", "set 0", "hear",
    "hear s 1 ", "start", "start b 1", "join", "join b 01", "until", "until ", "until 01", "until x",
    "until 1 2", "until -0", "cancel", "cancel b 0", "in 0", "in a", "out out", "close", "close g h", "catch", "catch 1",
    "fail", "fail 3", "fail w w", "Give", "gives", "giv", "task a", "take q", "give\n", "\tgive", "put q\n", "get q \u0663",
    "put \u00e9", "give,", ",give", "give;", "put\u00a0q", "get q \u00b2",
)


def piece_of(function, text):
    """The number of the first wrong piece, "unfit", or None if nothing is refused."""
    try:
        function(text)
    except BadText as error:
        return error.piece
    except Unfit:
        return "unfit"
    return None


class Scripts(unittest.TestCase):
    def test_each_kind_of_step(self):
        for text, step in STEPS.items():
            self.assertEqual(script_text((step,)), text)
            self.assertEqual(script_text([listed(step)]), text)
            self.assertEqual(script_from(text), (step,))

    def test_rows_of_steps(self):
        steps = (("in",), ("put", "q"), ("out",), ("give",))
        self.assertEqual(script_text(steps), "in, put q, out, give")
        self.assertEqual(script_from("in, put q, out, give"), steps)
        self.assertEqual(script_text(()), "-")
        self.assertEqual(script_text([]), "-")
        self.assertEqual(script_from("-"), ())

    def test_the_whole_row_there_and_back(self):
        self.assertEqual(script_from(", ".join(STEPS)), tuple(STEPS.values()))
        self.assertEqual(script_text(tuple(STEPS.values())), ", ".join(STEPS))

    def test_wrong_steps_first_in_the_middle_last(self):
        for wrong in WRONG_STEPS:
            if wrong == "-":
                continue
            for text, piece in ((wrong, 0), (wrong + ", give", 0), ("give, " + wrong + ", give", 1),
                                ("give, set s, " + wrong, 2)):
                self.assertEqual(piece_of(script_from, text), piece, text)

    def test_a_dash_beside_others_is_wrong(self):
        for text, piece in (("-, give", 0), ("give, -", 1), (" -", 0), ("- ", 0), ("--", 0), ("-, -", 0), ("in, -", 1)):
            self.assertEqual(piece_of(script_from, text), piece, text)

    def test_the_first_wrong_piece_decides(self):
        self.assertEqual(piece_of(script_from, "give, put, put q, get"), 1)
        self.assertEqual(piece_of(script_from, "give,put q"), 0)
        self.assertEqual(piece_of(script_from, "give , put q"), 0)
        self.assertEqual(piece_of(script_from, "give,  put q"), 1)
        self.assertEqual(piece_of(script_from, "give, , put q"), 1)
        self.assertEqual(piece_of(script_from, "give, "), 1)
        self.assertEqual(piece_of(script_from, "give; put q"), 0)

    def test_shields_behind_wrong_pieces(self):
        for text in ("in", "out", "out, in", "in, in, out", "in, out, out, in", "in, put q"):
            self.assertEqual(piece_of(script_from, text), "unfit", text)
        self.assertEqual(piece_of(script_from, "out, put"), 1)
        self.assertEqual(piece_of(script_from, "in, in, out, out"), None)

    def test_any_length(self):
        steps = tuple([("get", "q", number) for number in range(500)])
        self.assertEqual(script_from(script_text(steps)), steps)


class Houses(unittest.TestCase):
    house = built({"a": [("start", "b"), ("put", "q"), ("close", "g")], "b in g": [("get", "q", ()), ("fail", "w")],
                   "c": []}, {"g": "a"}, {"q": 2, "r": 10})
    text = "task a: start b, put q, close g; task b in g: get q, fail w; task c: -; group g of a; room q 2; room r 10"

    def test_there_and_back(self):
        self.assertEqual(house_text(self.house), self.text)
        self.assertEqual(house_text(listed(self.house)), self.text)
        self.assertEqual(house_from(self.text), self.house)

    def test_many_houses_there_and_back(self):
        for number in range(300):
            house = made_house(number)
            self.assertEqual(house_from(house_text(house)), house)
            self.assertTrue(is_house(house_from(house_text(house))))
            for task, group, steps in house[0]:
                self.assertEqual(script_from(script_text(steps)), steps)
            run = made_run(house, number)
            self.assertEqual(names_from(names_text(run)), run)
            self.assertEqual(marks_from(marks_text(marks(house, run))), marks(house, run))

    def test_names_that_are_words(self):
        house = built({"in": [("in",), ("out",)], "task": [("start", "room"), ("catch", "of")], "room in of": []},
                      {"of": "task"}, {"group": 1})
        text = "task in: in, out; task room in of: -; task task: start room, catch of; group of of task; room group 1"
        self.assertEqual(house_text(house), text)
        self.assertEqual(house_from(text), house)

    def test_each_wrong_step_in_each_task(self):
        for wrong in WRONG_STEPS:
            if wrong == "-" or ";" in wrong:
                continue
            for steps in (wrong, "give, " + wrong, wrong + ", give"):
                self.assertEqual(piece_of(house_from, f"task a: {steps}"), 0, steps)
                self.assertEqual(piece_of(house_from, f"task a: give; task b: {steps}; task c: -; room q 1"), 1, steps)
                self.assertEqual(piece_of(house_from, f"task a: give; task b: -; task c: {steps}"), 2, steps)

    def test_wrong_pieces(self):
        wrong = (
            "", " ", "-", "task", "task a", "task a:", "task a: ", "task a : give", "task a:give", "task a:  give", "task: give",
            "task : give", "task  a: give", " task a: give", "task a: give ", "task A: give", "task abcdefghi: give",
            "task 1: give", "task a in: give", "task a in : give", "task a in g", "task a in g h: give", "task a on g: give",
            "task a in  g: give", "task a in G: give", "task a g: give", "task in g: give", "a: give", "Task a: give",
            "tasks a: give", "give", "task a: - ", "task a: -, give", "task a: give, -", "task a: give: give", "task a b: -",
            "group g", "group g of", "group g of a b", "group g a", "group  g of a", "group G of a", "group g of A",
            "group g of 1", "group g Of a", "group 1 of a", "group g: a", "groups g of a", "group g in a", "group g of a ",
            "group of a", "room", "room q", "room q 0", "room q 01", "room q -1", "room q x", "room q 1 2", "room q  1",
            "room 1 1", "room Q 1", "room q 1 ", "room q: 1", "rooms q 1", "room q 1x", "room abcdefghi 1", "house", "queue q",
        )
        for piece in wrong:
            self.assertEqual(piece_of(house_from, "task a: give; " + piece), 1, piece)
            self.assertEqual(piece_of(house_from, "task a: give; " + piece + "; room z 3"), 1, piece)
            self.assertEqual(piece_of(house_from, "task a: give; task b: -; " + piece + "; task a: -"), 2, piece)
            if piece != "-":
                self.assertEqual(piece_of(house_from, piece), 0, piece)
                self.assertEqual(piece_of(house_from, piece + "; task b: give"), 0, piece)

    def test_order_of_pieces(self):
        self.assertEqual(piece_of(house_from, "task b: -; task a: -"), 1)
        self.assertEqual(piece_of(house_from, "task a: -; task a: -"), 1)
        self.assertEqual(piece_of(house_from, "task a: -; task b: -; task b: give"), 2)
        self.assertEqual(piece_of(house_from, "room q 1; task a: -"), 1)
        self.assertEqual(piece_of(house_from, "task a: -; room q 1; group g of a"), 2)
        self.assertEqual(piece_of(house_from, "group g of a; task a: -; task x"), 1)
        self.assertEqual(piece_of(house_from, "task a: -; group g of a; group g of b"), 2)
        self.assertEqual(piece_of(house_from, "task a: -; group h of a; group g of a"), 2)
        self.assertEqual(piece_of(house_from, "task a: -; room q 1; room q 2"), 2)
        self.assertEqual(piece_of(house_from, "task a: -; room r 1; room q 2"), 2)
        self.assertEqual(piece_of(house_from, "task a: -; room q 1; room r 2; room r"), 3)
        self.assertEqual(piece_of(house_from, "task b: -; group a of b"), "unfit")
        self.assertEqual(piece_of(house_from, "task z: -; room a 1"), None)

    def test_cut_at_each_sign(self):
        self.assertEqual(piece_of(house_from, "task a: give;task b: give"), 0)
        self.assertEqual(piece_of(house_from, "task a: give ; task b: give"), 0)
        self.assertEqual(piece_of(house_from, "task a: give;  task b: give"), 1)
        self.assertEqual(piece_of(house_from, "task a: give; "), 1)
        self.assertEqual(piece_of(house_from, "; task a: give"), 0)
        self.assertEqual(piece_of(house_from, "task a: give, task b: give"), 0)
        self.assertEqual(piece_of(house_from, "task a: give\n; task b: give"), 0)

    def test_unfit_behind_wrong_pieces(self):
        for text in ("-", "room q 1", "group g of a", "task a: start b", "task a: start a", "task a: cancel a", "task a in g: -",
                     "task a: in", "task a: out, in", "task a: -; group g of a", "task a: close g", "task a: join b",
                     "task a: start b; task b: start a", "task a: close g; group g of b; task"):
            self.assertEqual(piece_of(house_from, text), "unfit" if not text.endswith("; task") else 2, text)

    def test_large_numbers(self):
        big = "9" * 40
        house = house_from(f"task a: get q {big}, until {big}; room q {big}")
        self.assertEqual(house[0][0][2], (("get", "q", int(big)), ("until", int(big))))
        self.assertEqual(house[2], (("q", int(big)),))
        self.assertEqual(house_text(house), f"task a: get q {big}, until {big}; room q {big}")

    def test_many_broken_texts(self):
        row = Row(5)
        for number in range(200):
            text = house_text(small_house(number))
            at = row.below(len(text))
            sign = row.one_of(" ,;:-0aZ%")
            broken = row.one_of((text[:at] + text[at + 1:], text[:at] + sign + text[at:], text[:at] + sign + text[at + 1:]))
            try:
                house = house_from(broken)
            except (BadText, Unfit):
                continue
            self.assertEqual(house_text(house), broken)
            self.assertTrue(is_house(house))


class Names(unittest.TestCase):
    def test_there_and_back(self):
        for names, text in (((), "-"), (("a",), "a"), (("b", "a", "b"), "b a b"), (("abcdefgh", "in"), "abcdefgh in")):
            self.assertEqual(names_text(names), text)
            self.assertEqual(names_text(list(names)), text)
            self.assertEqual(names_from(text), names)

    def test_wrong_pieces(self):
        for text, piece in (("", 0), (" ", 0), ("a ", 1), (" a", 0), ("a  b", 1), ("a b ", 2), ("A", 0), ("a B c", 1), ("a 1", 1),
                            ("abcdefghi", 0), ("a b abcdefghi", 2), ("a-", 0), ("- a", 0), ("a -", 1), ("--", 0), ("a, b", 0),
                            ("a\nb", 0), ("a b\t", 1), ("\u00e9", 0)):
            self.assertEqual(piece_of(names_from, text), piece, text)


class Marks(unittest.TestCase):
    def test_there_and_back(self):
        big = int("1" * 40)
        for marks, text in (((), "-"), ((("a", 0),), "a 0"), ((("b", 10), ("a", 0), ("b", 10)), "b 10, a 0, b 10"),
                            ((("abcdefgh", big),), f"abcdefgh {big}")):
            self.assertEqual(marks_text(marks), text)
            self.assertEqual(marks_text(listed(marks)), text)
            self.assertEqual(marks_from(text), marks)

    def test_wrong_pieces(self):
        for wrong in ("", " ", "a", "a ", "a 00", "a 01", "a -1", "a +1", "a x", "a 1 ", " a 1", "a  1", "a 1 2", "A 1", "1 1", "1 a",
                      "abcdefghi 1", "a,1", "a 1,", "a:1", "a \u0661", "a 1x", "a 1\n", "a ()"):
            self.assertEqual(piece_of(marks_from, wrong), 0, wrong)
            self.assertEqual(piece_of(marks_from, "b 0, " + wrong), 1, wrong)
            self.assertEqual(piece_of(marks_from, "b 0, c 3, " + wrong + ", d 1"), 2, wrong)
            self.assertEqual(piece_of(marks_from, wrong + ", b 0"), 0, wrong)
        for text, piece in (("a 1,b 2", 0), ("a 1 , b 2", 0), ("a 1,  b 2", 1), ("-, a 1", 0), ("a 1, -", 1),
                            ("a 1; b 2", 0)):
            self.assertEqual(piece_of(marks_from, text), piece, text)


class ReadBack(unittest.TestCase):
    def test_what_is_read_is_what_is_written(self):
        for text, step in STEPS.items():
            if step[0] not in ("start", "join", "cancel", "close", "catch"):
                self.assertTrue(is_script(script_from(text)))
