"""Promise 45: the rows of a desk, their answers and their refusals."""

import unittest

import samples
from clobberwalk.desk import Desk
from clobberwalk.errors import (
    InvalidInputs, InvalidModule, InvalidNumber, InvalidRow, ParseError, UnknownName, UnknownPlace, WrongPlace,
)
from clobberwalk.graphs import depth, immediate_dominator, reached
from clobberwalk.machine import run
from clobberwalk.texts import show_module
from clobberwalk.workshop import Workshop
from written import graph

RICH_TEXT = show_module(samples.RICH)
FIRST_TEXT = "function main\nblock a\nnone x\ngive x"


def desk_of(text=RICH_TEXT):
    desk = Desk()
    desk.say("load\n" + text)
    return desk


class Rows(unittest.TestCase):
    def setUp(self):
        self.desk = desk_of()

    def says(self, row, answer):
        self.assertEqual(self.desk.say(row), answer, row)

    def refuses(self, row, error, field=None, value=None):
        shop = self.desk.workshop
        before = (shop.current, shop.history, shop.undone, shop.changes())
        with self.assertRaises(error) as caught:
            self.desk.say(row)
        if field is not None:
            self.assertEqual(getattr(caught.exception, field), value)
        self.assertIs(self.desk.workshop, shop)
        self.assertEqual((shop.current, shop.history, shop.undone, shop.changes()), before)

    def test_the_module_at_first(self):
        self.desk = Desk()
        self.says("text", FIRST_TEXT)
        self.assertEqual(self.desk.workshop.current, samples.SMALL)
        self.assertIs(type(self.desk.workshop), Workshop)
        self.assertEqual(len(self.desk.workshop), 0)
        self.says("run", ": value none")

    def test_as_a_function(self):
        self.assertEqual(self.desk("text"), RICH_TEXT)
        self.assertEqual(self.desk(row="live"), "main twin")
        self.assertEqual(self.desk.say(row="live"), "main twin")
        with self.assertRaises(InvalidRow) as caught:
            self.desk("nothing")
        self.assertEqual(caught.exception.value, "nothing")

    def test_load(self):
        self.desk.say("kind new")
        shop = self.desk.workshop
        self.says("load\n" + FIRST_TEXT, "ok")
        self.assertIsNot(self.desk.workshop, shop)
        self.assertEqual((self.desk.workshop.current, len(self.desk.workshop), self.desk.workshop.undone), (samples.SMALL, 0, 0))
        self.says("changes", "0 0 0 0")
        self.assertEqual(shop.text().split("\n")[0], "kind new")

    def test_load_of_what_is_no_text(self):
        for text, line, word in (("", 0, 0), (" ", 0, 0), ("load", 0, 0), (FIRST_TEXT + "\n", 4, 0), ("function main\nblock a\nnone x", 3, 0),
                                 ("function main\nblock  a\nnone x", 1, 1), ("\n" + FIRST_TEXT, 0, 0)):
            self.refuses("load\n" + text, ParseError, "line", line)
            self.refuses("load\n" + text, ParseError, "word", word)
        self.refuses("load\n" + FIRST_TEXT.replace("none x", "none y"), InvalidModule, "reason", ("use", 0, 0, 1, "x"))

    def test_text(self):
        self.says("text", RICH_TEXT)

    def test_insert_replace_delete(self):
        self.says("insert main start 0 num first -7", "ok")
        self.says("replace main start 0 none first", "ok")
        self.says("replace main start 19 go loop x first", "ok")
        self.says("delete main dead 0", "ok")
        self.assertEqual(self.desk.workshop.history, [
            (("insert", ("main", "start", 0), ("num", "first", -7)),), (("replace", ("main", "start", 0), ("none", "first")),),
            (("replace", ("main", "start", 19), ("go", "loop", ("x", "first"))),), (("delete", ("main", "dead", 0)),),
        ])
        self.refuses("insert main start 99 none z", UnknownPlace, "value", ("main", "start", 99))
        self.refuses("insert main start 0 give x", WrongPlace, "place", ("main", "start", 0))
        self.refuses("delete main nowhere 0", UnknownPlace, "value", ("main", "nowhere", 0))
        self.refuses("delete main start 19", WrongPlace, "place", ("main", "start", 19))
        self.refuses("insert main start 0 none first", InvalidModule, "reason", ("twice", 0, "first"))

    def test_other_edits(self):
        self.says("drop main dead", "ok")
        self.says("kind zz", "ok")
        self.says("kind ab a b c d e f", "ok")
        self.says("forget zz", "ok")
        self.says("replace main start 15 none ai", "ok")
        self.says("replace main start 16 none aj", "ok")
        self.says("replace main start 2 none g", "ok")
        self.says("remove twin", "ok")
        self.assertEqual(self.desk.workshop.history[1:3], [(("kind", ("zz", ())),), (("kind", ("ab", tuple("abcdef"))),)])
        self.assertEqual([function[0] for function in self.desk.workshop.current[1]], ["main"])
        self.refuses("drop main dead", UnknownName, "value", "dead")
        self.refuses("drop dead main", UnknownName, "value", "dead")
        self.refuses("remove twin", UnknownName, "value", "twin")
        self.refuses("forget zz", UnknownName, "value", "zz")
        self.refuses("forget pair", InvalidModule, "reason", ("name", 0, 0, 9))

    def test_undo_and_redo(self):
        for name in ("zza", "zzb", "zzc"):
            self.desk.say("kind " + name)
        for row, length in (("undo", 2), ("undo 2", 0), ("redo", 1), ("redo 1", 2), ("redo 1", 3), ("undo 3", 0), ("redo 2", 2)):
            self.says(row, "ok")
            self.assertEqual(len(self.desk.workshop), length)
        self.refuses("undo 3", InvalidNumber, "value", 3)
        self.refuses("undo 0", InvalidNumber, "value", 0)
        self.refuses("redo 2", InvalidNumber, "value", 2)
        self.refuses("redo 0", InvalidNumber, "value", 0)
        self.refuses(f"redo {10 ** 40}", InvalidNumber, "value", 10 ** 40)
        self.says("redo", "ok")
        self.refuses("redo", InvalidNumber, "value", 1)

    def test_run(self):
        def check(body, answer, row="run 3"):
            self.desk = desk_of(f"kind k a\nfunction main x\nblock a\n{body}")
            self.says(row, answer)

        check("give x", ": value 3")
        check("give x", ": value -3", "run -3")
        check("give x", f": value {10 ** 40}", f"run {10 ** 40}")
        check("show x\nshow x\nnone r\ngive r", "3 3 : value none")
        check("num n -5\nshow n\nshow x\nfun r main\ngive r", "-5 3 : value fun main")
        check("new r k\ngive r", ": value object k")
        check("row r x\ngive r", ": value row 3")
        check("show x\nget r x a\ngive r", "3 : fault object main a 1")
        check("go b\nblock b\ngo b", ": limit")
        check("show x\ngo b\nblock b\ngo b", "3 : limit")
        self.refuses("run", InvalidInputs, "value", [])
        self.refuses("run 1 2", InvalidInputs, "value", [1, 2])
        self.desk = Desk()
        self.refuses("run 1", InvalidInputs, "value", [1])

    def test_holds_and_given(self):
        self.says("holds main x", "number")
        self.says("holds main o", "none")
        self.says("holds main g", "fun twin")
        self.says("holds main ag", "none, site main start 9")
        self.says("holds main ah", "none, site main start 9")
        self.says("holds main r", "site main start 9, site main start 10")
        self.says("holds main s", "-")
        self.says("given twin", "number")
        self.says("given main", "site main start 9, site main start 10")
        self.refuses("holds main nowhere", UnknownName, "value", "nowhere")
        self.refuses("holds nowhere x", UnknownName, "value", "nowhere")
        self.refuses("given nowhere", UnknownName, "value", "nowhere")

    def test_live_goals_words(self):
        self.says("live", "main twin")
        self.says("goals main start 15", "twin")
        self.says("goals main start 16", "twin")
        self.says("words main start 13", "index")
        self.says("words main start 0", "-")
        self.refuses("goals main start 0", WrongPlace, "place", ("main", "start", 0))
        self.refuses("goals main start 99", UnknownPlace, "value", ("main", "start", 99))
        self.refuses("words main dead 0", UnknownPlace, "value", ("main", "dead", 0))
        self.desk = desk_of("function main x\nblock a\nask r x\nadd s r x\nmul t x x\nfun f main\nif x b f / b x\nblock b h\nask u h x\ngive r")
        self.says("live", "main")
        self.says("goals main a 0", "-")
        self.says("words main b 0", "function deep")
        self.says("words main a 0", "function")
        self.says("words main a 2", "great")

    def test_changes(self):
        self.says("changes", "0 0 0 0")
        self.desk.say("insert main start 0 num first 1")
        self.says("changes", "0 1 0 0")
        self.desk.say("undo")
        self.says("changes", "1 0 0 0")
        self.desk.say("load\nfunction f\nblock a\nnone o\ngive o\nfunction main\nblock a\ncall r f\ngive r")
        self.desk.say("replace main a 0 none r")
        self.says("changes", "2 0 1 0")
        self.desk.say("undo")
        self.says("changes", "0 2 0 1")

    def test_table(self):
        self.says("table main", "start -      0 18\nloop  start  1  1\nboth  loop   0  1\ndone  both   0  1")
        self.says("table twin", "only -  0  0")
        self.refuses("table nowhere", UnknownName, "value", "nowhere")
        self.desk = Desk()
        self.says("table main", "a -  0  1")

    def test_tables_of_other_shapes(self):
        for shape in ("a", "a b c, b d, c d, d", "a b, b c d, c e f, d f g, e b h, f h, g g h, h", "a c, b c, c d, d"):
            value = graph(shape)
            self.desk.say("load\n" + show_module(value).replace("block a\n", "block a\n" + "show x\n" * 12))
            value = self.desk.workshop.current
            lines = self.desk.say("table main").split("\n")
            names = reached(value, "main")
            self.assertEqual([line.split() for line in lines], [
                [name, immediate_dominator(value, "main", name) or "-", str(depth(value, "main", name)), "12" if name == "a" else "0"]
                for name in names
            ])
            self.assertEqual({len(line) for line in lines}, {1 + 1 + 1 + 1 + 2 + 1 + 2})

    def test_a_table_with_names_of_unlike_lengths(self):
        self.desk.say("load\nfunction main x\nblock a\ngo loopblok\nblock loopblok\nif x loopblok / bcd\nblock bcd\nif x bcd / dead\nblock dead\n"
                      "give x\nblock not\ngive x")
        self.says("table main", "a        -         0  0\nloopblok a         1  0\nbcd      loopblok  1  0\ndead     bcd       0  0")


class Try(unittest.TestCase):
    def test_each_row(self):
        desk = desk_of()
        desk.say("kind zza")
        desk.say("kind zzb")
        desk.say("undo")
        shop = desk.workshop
        before = (shop.current, shop.history, shop.undone, shop.changes(), shop.depth)
        for row in ("text", "insert main start 0 none z", "replace main start 0 num n 6", "delete main dead 0", "drop main dead", "kind a b",
                    "forget zza", "undo", "undo 1", "redo", "redo 1", "run 1", "holds main r", "given main", "live", "goals main start 15",
                    "words main start 13", "changes", "table main"):
            other = desk_of()
            for one in ("kind zza", "kind zzb", "undo"):
                other.say(one)
            self.assertEqual(desk.say("try " + row), other.say(row))
            self.assertEqual((shop.current, shop.history, shop.undone, shop.changes(), shop.depth), before)
        self.assertIs(desk.workshop, shop)

    def test_errors(self):
        desk = desk_of()
        for row, error in (("try undo", InvalidNumber), ("try remove nowhere", UnknownName), ("try run", InvalidInputs),
                           ("try remove main", InvalidModule), ("try delete main start 99", UnknownPlace)):
            with self.assertRaises(error):
                desk.say(row)
            self.assertEqual((desk.workshop.current, desk.workshop.history, desk.workshop.depth), (samples.RICH, [], 0))


class Invalid(unittest.TestCase):
    def setUp(self):
        self.desk = desk_of()

    def refuses(self, *rows):
        for row in rows:
            for value in [row, "try " + row] if isinstance(row, str) else [row]:
                with self.assertRaises(InvalidRow, msg=row) as caught:
                    self.desk.say(value)
                self.assertIs(caught.exception.value, value)
                self.assertEqual((self.desk.workshop.current, len(self.desk.workshop)), (samples.RICH, 0))

    def test_no_strings(self):
        self.refuses(*[value for value in samples.STRAYS if type(value) is not str], ["text"], ("text",), b"text", run(samples.RICH, [1]))

    def test_empty_words(self):
        self.refuses("", " ", "  ", " text", "text ", "holds  main x", "holds main x ", "run ", "run 1 ", "run  1", "undo ", "kind a ", "kind  a",
                     "insert main start 0 none  z", "insert main start 0 none z ", "try", "try ")

    def test_first_words(self):
        self.refuses("nothing", "Text", "texts", "load", "load x", "load text", "do", "step", "block main a", "function a", "facts", "-", "1", "try",
                     "try try text", "load \n" + FIRST_TEXT, " load\n" + FIRST_TEXT, "loads\n" + FIRST_TEXT)
        for row in ("try load\n" + FIRST_TEXT, "try try text", "try load", "load"):
            with self.assertRaises(InvalidRow) as caught:
                self.desk.say(row)
            self.assertIs(caught.exception.value, row)

    def test_numbers_of_words(self):
        for row in ("insert main start 0 none z", "replace main start 0 none z", "delete main dead 0", "drop main dead", "remove twin", "forget unit",
                    "holds main x", "given main", "goals main start 15", "words main start 0", "table main", "live", "changes", "text",
                    "undo 1", "redo 1"):
            words = row.split(" ")
            self.refuses(row + " z", row + " z z")
            if len(words) > 1 and words[0] not in ("undo", "redo"):
                self.refuses(" ".join(words[:-1]), words[0])
        self.refuses("kind", "kind a b c d e f g h", "undo 1 1", "insert main start 0", "insert main start 0 give", "insert main start 0 give a b")

    def test_names(self):
        for word in ("A", "a1", "ninelette", "1", "-", "a-b", "a\n", "\n", "/", "a,b", "~"):
            self.refuses(f"holds {word} x", f"holds main {word}", f"given {word}", f"drop {word} a", f"drop main {word}", f"remove {word}",
                         f"forget {word}", f"kind {word}", f"kind a {word}", f"table {word}", f"delete {word} start 0", f"delete main {word} 0",
                         f"goals main {word} 0", f"words {word} start 0", f"insert {word} start 0 none z", f"insert main start 0 none {word}",
                         f"replace main {word} 0 none z")

    def test_fields(self):
        self.refuses("kind a b b", "kind a b c d e f g h", "kind a b c b", "kind a b c d e f f")

    def test_integers(self):
        for word in ("-0", "01", "007", "+1", "x", "1.0", "", "--1", str(10 ** 40 + 1), "0x1", "1\n", "9" * 4500):
            self.refuses(f"run {word}", f"run 1 {word}", f"undo {word}", f"redo {word}", f"delete main start {word}", f"goals main start {word}",
                         f"words main start {word}", f"insert main start {word} none z", f"insert main start 0 num z {word}")
        for word in ("-1", "-5", str(-10 ** 40)):
            self.refuses(f"undo {word}", f"redo {word}", f"delete main start {word}", f"words main start {word}", f"replace main start {word} none z")
        self.refuses(f"run {-10 ** 40 - 1}")

    def test_lines(self):
        for line in ("nothing", "kind a", "block a", "function a", "none", "none a b", "call r", "if a b c", "go", "num r", "num r x", "give a / b",
                     "ask r a a b c d e f g", "text", "add r a"):
            self.refuses(f"insert main start 0 {line}", f"replace main start 0 {line}")

    def test_ahead_of_all_other_errors(self):
        self.refuses("holds nowhere X", "delete nowhere nowhere -1", "drop nowhere A", "insert nowhere nowhere 0 none A", "run 1 2 x")

    def test_newlines(self):
        self.refuses("text\n", "\ntext", "live\nlive", "holds main x\n", "kind a\nb", "run 1\n2", "text\ntext")


if __name__ == "__main__":
    unittest.main()
