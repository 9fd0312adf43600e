"""Promises 41, 42: modules and lines as texts, and what cannot stand in a text."""

import random
import unittest

import drawn
import naive_texts
import samples
from clobberwalk.errors import InvalidModule, ParseError
from clobberwalk.machine import run
from clobberwalk.modules import module_error
from clobberwalk.texts import read_line, read_module, show_line, show_module

TEXT = "kind pair left right\nfunction main n\nblock start\nnew p pair\nput p left n\ngo loop n\nblock loop k\nget q p left\n" \
       "if k done q / loop k\nblock done r\ngive r"
SMALL = "function main\nblock a\nnone x\ngive x"

# The line of each word of an instruction and of an end.
LINES = (
    ("num r 5", ("num", "r", 5)), ("num r -5", ("num", "r", -5)), ("num r 0", ("num", "r", 0)),
    (f"num r {10 ** 40}", ("num", "r", 10 ** 40)), (f"num r -{10 ** 40}", ("num", "r", -10 ** 40)),
    ("none r", ("none", "r")), ("fun r f", ("fun", "r", "f")), ("add r a b", ("add", "r", "a", "b")),
    ("sub r a b", ("sub", "r", "a", "b")), ("mul r a b", ("mul", "r", "a", "b")), ("less r a b", ("less", "r", "a", "b")),
    ("not r a", ("not", "r", "a")), ("same r a b", ("same", "r", "a", "b")), ("new r k", ("new", "r", "k")),
    ("row r a", ("row", "r", "a")), ("get r a f", ("get", "r", "a", "f")), ("put a f b", ("put", "a", "f", "b")),
    ("at r a b", ("at", "r", "a", "b")), ("set a b c", ("set", "a", "b", "c")), ("call r f", ("call", "r", "f", ())),
    ("call r sum a b", ("call", "r", "sum", ("a", "b"))), ("ask r a", ("ask", "r", "a", ())),
    ("ask r a a b c d e f", ("ask", "r", "a", ("a", "b", "c", "d", "e", "f"))), ("show a", ("show", "a")),
    ("go b", ("go", "b", ())), ("go b a a", ("go", "b", ("a", "a"))), ("if a b / c", ("if", "a", "b", (), "c", ())),
    ("if k done q / loop k", ("if", "k", "done", ("q",), "loop", ("k",))),
    ("if if if if if / if if", ("if", "if", "if", ("if", "if"), "if", ("if",))),
    ("if a b c d e f g h / i j k l m n o", ("if", "a", "b", ("c", "d", "e", "f", "g", "h"), "i", ("j", "k", "l", "m", "n", "o"))),
    ("give a", ("give", "a")), ("num num 7", ("num", "num", 7)), ("give abcdefgh", ("give", "abcdefgh")),
)


def big(kinds=0, functions=1, blocks=1, things=0):
    """Make a text with so many kinds, functions, blocks of the first function, instructions of its first block."""
    names = samples.names(60)
    lines = [f"kind {name}" for name in names[:kinds]]
    for f in range(functions):
        lines.append("function main" if f == 0 else f"function z{names[f]}")
        for b in range(blocks if f == 0 else 1):
            lines.append(f"block {names[b]}")
            lines.extend([f"none {name}" for name in names[:things]] if f + b == 0 else [])
            lines.extend(["none zz", "give zz"] if b > 0 or things == 0 else ["give aa"])
    return "\n".join(lines)


class Shown(unittest.TestCase):
    def test_the_samples(self):
        self.assertEqual(show_module(samples.EXAMPLE), TEXT)
        self.assertEqual(show_module(samples.SMALL), SMALL)
        for value in (samples.EXAMPLE, samples.SMALL, samples.RICH):
            self.assertEqual(read_module(show_module(value)), value)

    def test_kinds_without_fields_and_an_if(self):
        lines = show_module(samples.RICH).split("\n")
        self.assertEqual(lines[:4], ["kind pair left right", "kind unit", "function main x", "block start"])
        for line in ("num n 5", "call ai twin n p", "ask aj g ai ah", "go loop x p", "block loop i j", "if k loop k p / both",
                     "if k done p / done q", "function twin a b"):
            self.assertIn(line, lines)

    def test_no_module(self):
        for value in [*samples.STRAYS, TEXT, samples.RICH[0], run(samples.RICH, [1])]:
            with self.assertRaises(InvalidModule) as caught:
                show_module(value)
            self.assertEqual(caught.exception.reason, module_error(value))

    def test_drawn_modules(self):
        source = random.Random(41)
        for _ in range(100):
            value = drawn.draw_module(source)
            text = show_module(value)
            self.assertEqual(read_module(text), value)
            self.assertEqual(naive_texts.read_text(text), value)

    def test_by_name(self):
        self.assertEqual(show_module(module=samples.SMALL), SMALL)
        self.assertEqual(read_module(text=SMALL), samples.SMALL)
        self.assertEqual(show_line(thing=("give", "a")), "give a")
        self.assertEqual(read_line(text="give a"), ("give", "a"))


class Lines(unittest.TestCase):
    def wrong(self, text, word):
        with self.assertRaises(ParseError) as caught:
            read_line(text)
        self.assertEqual((caught.exception.line, caught.exception.word), (0, word))

    def test_each_sort(self):
        for line, thing in LINES:
            self.assertEqual(read_line(line), thing)
            self.assertEqual(show_line(thing), line)

    def test_the_examples_of_the_document(self):
        self.assertEqual(read_line("if k done q / loop k"), ("if", "k", "done", ("q",), "loop", ("k",)))
        self.assertEqual(show_line(("call", "r", "sum", ("a", "b"))), "call r sum a b")

    def test_a_word_less_and_a_word_more(self):
        for line, thing in LINES:
            words = line.split(" ")
            for many in range(1, len(words)):
                shorter = " ".join(words[:many])
                if shorter not in [one for one, _ in LINES]:
                    wrong = naive_texts.first_wrong(words[:many])
                    if wrong is not None:
                        self.assertEqual(wrong, many)
                        self.wrong(shorter, many)
            more = words + ["x"] * 7
            wrong = naive_texts.first_wrong(more)
            self.wrong(" ".join(more), wrong)
            self.wrong(line + " X", len(words))

    def test_counts_of_words(self):
        self.wrong("give", 1)
        self.wrong("give a b", 2)
        self.wrong("if a b", 3)
        self.wrong("if a b c", 4)
        self.wrong("if a b /", 4)
        self.wrong("if a b c d e f g h i", 9)
        self.wrong("if a b / c d e f g h i j", 11)
        self.wrong("if a b c d e f g h", 9)
        self.wrong("call r f a b c d e f g", 9)
        self.wrong("go b a b c d e f g", 8)
        self.wrong("num r", 2)

    def test_a_word_changed(self):
        for line, _ in LINES:
            words = line.split(" ")
            for at in range(len(words)):
                for word in ("", "A", "a1", "ninelette", "-", "7", "-0", "a\n", "\n", "/", "~", "(", "a,b", "nothing"):
                    changed = words[:at] + [word] + words[at + 1:]
                    wrong = naive_texts.first_wrong(changed)
                    if wrong is None:
                        self.assertEqual(show_line(read_line(" ".join(changed))), " ".join(changed))
                    else:
                        self.wrong(" ".join(changed), wrong)

    def test_spaces(self):
        self.wrong("", 0)
        self.wrong(" ", 0)
        self.wrong(" give a", 0)
        self.wrong("give  a", 1)
        self.wrong("give a ", 2)
        self.wrong("if a b  / c", 3)

    def test_newlines_are_signs_of_words(self):
        self.wrong("give a\n", 1)
        self.wrong("\ngive a", 0)
        self.wrong("give\na", 0)
        self.wrong("give a\ngive b", 1)
        self.wrong("num r 5\n", 2)
        self.wrong("none a\ngive a", 1)

    def test_integers(self):
        for word in ("-0", "00", "07", "-07", "+7", "7a", "1e3", "--1", "-", "", str(10 ** 40 + 1), str(-10 ** 40 - 1), "9" * 5000,
                     "0x1", "1_0", "1.0", "-" * 50):
            self.wrong(f"num r {word}", 2)
        for number in (0, 7, -7, 10, 10 ** 40, -10 ** 40, 10 ** 40 - 1):
            self.assertEqual(read_line(f"num r {number}"), ("num", "r", number))

    def test_other_lines_and_other_values(self):
        for line in ("kind a", "function main", "block a", "nothing", "Give a", "num\tr 1", "0"):
            self.wrong(line, 0)
        for value in [*[one for one in samples.STRAYS if type(one) is not str], b"give a", ("give", "a"), ["give a"], run(samples.RICH, [1])]:
            self.wrong(value, 0)


class Wrong(unittest.TestCase):
    def wrong(self, text, line, word):
        with self.assertRaises(ParseError) as caught:
            read_module(text)
        self.assertEqual((caught.exception.line, caught.exception.word), (line, word), text)

    def test_no_string(self):
        for value in [*[one for one in samples.STRAYS if type(one) is not str], TEXT.split("\n"), (TEXT,), TEXT.encode()]:
            self.wrong(value, 0, 0)

    def test_the_empty_text_and_empty_lines(self):
        self.wrong("", 0, 0)
        self.wrong("\n", 0, 0)
        self.wrong("\n" + SMALL, 0, 0)
        self.wrong(SMALL + "\n", 4, 0)
        self.wrong(SMALL.replace("\nnone", "\n\nnone"), 2, 0)

    def test_a_line_must_follow(self):
        lines = TEXT.split("\n")
        for many in range(1, len(lines)):
            if lines[many - 1].split()[0] not in ("go", "if"):
                self.wrong("\n".join(lines[:many]), many, 0)
        self.wrong("kind a", 1, 0)
        self.wrong("kind a\nkind b", 2, 0)
        self.wrong("function main", 1, 0)
        self.wrong("function main\nblock a", 2, 0)
        self.wrong("function main\nblock a\nnone x", 3, 0)

    def test_lines_in_other_places(self):
        self.wrong(SMALL + "\ngive x", 4, 0)
        self.wrong(SMALL + "\nnone y", 4, 0)
        self.wrong(SMALL + "\nkind a", 4, 0)
        self.wrong("block a\n" + SMALL, 0, 0)
        self.wrong("none x\n" + SMALL, 0, 0)
        self.wrong("function main\n" + SMALL, 1, 0)
        self.wrong("function main\nnone x\ngive x", 1, 0)
        self.wrong("function main\ngive x", 1, 0)
        self.wrong("function main\nkind a\nblock a\ngive x", 1, 0)
        self.wrong("function main\nblock a\nblock b\ngive x", 2, 0)
        self.wrong("function main\nblock a\nfunction z\nblock b\ngive x", 2, 0)
        self.wrong("function main\nblock a\nkind b", 2, 0)
        self.wrong("kind a\nblock b", 1, 0)

    def test_too_many(self):
        self.assertEqual(len(read_module(big(kinds=8))[0]), 8)
        self.wrong(big(kinds=9), 8, 0)
        self.assertEqual(len(read_module(big(functions=8))[1]), 8)
        self.wrong(big(functions=9), 32, 0)
        with self.assertRaises(InvalidModule) as caught:
            read_module(big(blocks=12))
        self.assertEqual(caught.exception.reason[0], "twice")
        self.wrong(big(blocks=13), 37, 0)
        self.assertEqual(len(read_module(big(things=40))[1][0][2][0][2]), 40)
        self.wrong(big(things=41), 42, 0)

    def test_too_many_names_in_a_line(self):
        names = samples.names(9)
        for word, most in (("kind", 6), ("function", 4), ("block", 6)):
            for many in (most, most + 1, most + 2):
                line = " ".join([word, "a", *names[:many]])
                before = {"kind": "", "function": "", "block": "function main\n"}[word]
                text = f"{before}{line}\n{SMALL}"
                if many > most:
                    self.wrong(text, before.count("\n"), most + 2)
                else:
                    # Then the line can stand; function and block have to be followed by others.
                    self.assertNotEqual(self.error_of(text), (before.count("\n"), most + 2))

    def error_of(self, text):
        try:
            read_module(text)
        except ParseError as error:
            return (error.line, error.word)
        return None

    def test_words_of_headings(self):
        self.wrong("kind", 0, 1)
        self.wrong("kind A", 0, 1)
        self.wrong("kind a B", 0, 2)
        self.wrong("kind a b /", 0, 3)
        self.wrong("function\n" + SMALL, 0, 1)
        self.wrong("function main 1\nblock a\ngive x", 0, 2)
        self.wrong("function main\nblock\ngive x", 1, 1)
        self.wrong("function main\nblock a \ngive x", 1, 2)
        self.wrong("Kind a\n" + SMALL, 0, 0)

    def test_a_thirteenth_block_of_another_function(self):
        text = big(blocks=12) + "\nfunction z\nblock a\nnone x\ngive x"
        with self.assertRaises(InvalidModule):
            read_module(text)
        self.wrong(text + "\nkind a", 41, 0)

    def test_the_first_line_of_several(self):
        self.wrong("function main\nblock a\nnone X\ngive X", 2, 1)
        self.wrong("kind a\nfunction main\nblock a\ngive\ngive a b c\nnothing", 3, 1)


class NoModule(unittest.TestCase):
    def check(self, text, reason):
        with self.assertRaises(InvalidModule) as caught:
            read_module(text)
        self.assertEqual(caught.exception.reason, reason)

    def test_each_reason_that_a_text_can_have(self):
        self.check("kind a b b\n" + SMALL, ("kind", 0))
        self.check("kind b\nkind a\n" + SMALL, ("kind", 1))
        self.check(SMALL + "\nfunction a\nblock a\nnone x\ngive x", ("function", 1))
        self.check("function main\nblock a x\ngive x", ("block", 0, 0))
        self.check(SMALL + "\nblock a\ngive x", ("block", 0, 1))
        self.check(SMALL.replace("main", "other"), ("main",))
        self.check("function main x\n" + "\n".join([
            f"block {name}\n" + "\n".join(["show x"] * 30) + "\ngive x" for name in "abcd"]), ("size",))
        self.check(SMALL.replace("none x", "new x k"), ("name", 0, 0, 0))
        self.check(SMALL.replace("give x", "go b"), ("name", 0, 0, 1))
        self.check("function main x x\nblock a\ngive x", ("twice", 0, "x"))
        self.check("function main\nblock a\ngive x", ("use", 0, 0, 0, "x"))

    def test_parse_errors_come_first(self):
        with self.assertRaises(ParseError):
            read_module("kind a b b\nfunction main\nblock a\ngive X")


class SecondAnswer(unittest.TestCase):
    def check(self, text):
        try:
            expected = naive_texts.read_text(text)
        except naive_texts.Wrong as wrong:
            with self.assertRaises(ParseError) as caught:
                read_module(text)
            self.assertEqual((caught.exception.line, caught.exception.word), wrong.args, text)
            return "wrong"
        reason = module_error(expected)
        if reason is None:
            self.assertEqual(read_module(text), expected)
            self.assertEqual(show_module(expected), text)
            return "module"
        with self.assertRaises(InvalidModule) as caught:
            read_module(text)
        self.assertEqual(caught.exception.reason, reason)
        return "invalid"

    def test_changed_texts(self):
        source = random.Random(42)
        found = []
        texts = [show_module(drawn.draw_module(source, 3, 3, 4)) for _ in range(40)] + [TEXT, SMALL, show_module(samples.RICH)]
        signs = ["", "a", "r", "/", "if", "give", "kind", "block", "function", "0", "-1", "07", "A", "left", "main", "num", "go", "call"]
        for text in texts:
            for _ in range(60):
                lines = [line.split(" ") for line in text.split("\n")]
                for _ in range(source.choice((1, 1, 2))):
                    words = source.choice(lines)
                    at = source.randrange(len(words) + 1)
                    source.choice((
                        lambda: words.insert(at, source.choice(signs)), lambda: words.__delitem__(slice(at, at + 1)),
                        lambda: words.__setitem__(slice(at, at + 1), [source.choice(signs)]),
                        lambda: lines.insert(source.randrange(len(lines) + 1), list(words)), lambda: lines.remove(words),
                        lambda: words.extend(["x"] * source.randint(1, 8)),
                    ))()
                    lines = lines or [[""]]
                found.append(self.check("\n".join([" ".join(words) for words in lines])))
        for word in ("wrong", "module", "invalid"):
            self.assertGreater(found.count(word), 100, word)


if __name__ == "__main__":
    unittest.main()
