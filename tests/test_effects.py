"""Promises 2, 25, 26: the cells of accesses, what functions and calls read, write and show, and the reach of things."""

import random
import unittest

import drawn
import naive
import samples
from clobberwalk.effects import call_effects, cells, is_calm, open_reads, open_writes, reach, reads, shows, writes
from clobberwalk.errors import InvalidThings
from clobberwalk.machine import run, touched
from naive_told import Told
from written import body, module

NUMBER, NONE = ("number",), ("none",)


def site(f, block, index):
    return ("site", (f, block, index))


def cell(text, f="main"):
    """Make a cell from a word: "a/1.left" or, of a row, "a/1"; another function stands before it: "f:a/1"."""
    if ":" in text:
        f, text = text.split(":")
    place, _, field = text.partition(".")
    block, index = place.split("/")
    return naive.cell((f, block, int(index)), field or None)


def cell_list(text):
    return [cell(word) for word in text.split()]


class Cells(unittest.TestCase):
    def check(self, expected, value, place):
        self.assertEqual(cells(value, place), cell_list(expected))

    def test_each_word(self):
        value = body("new p pair\nrow q x\nget r p left\nput p right x\nat s q x\nset q x x\ngive r", "x")
        for index, expected in ((2, "a/0.left"), (3, "a/0.right"), (4, "a/1"), (5, "a/1")):
            self.check(expected, value, ("main", "a", index))

    def test_things_without_such_cells(self):
        for made in ("none p", "fun p main", "num p 1", "new p unit", "row p x"):
            self.check("", body(f"{made}\nget r p left\ngive x", "x"), ("main", "a", 1))
            self.check("", body(f"{made}\nput p left x\ngive x", "x"), ("main", "a", 1))
        for made in ("none p", "fun p main", "num p 1", "new p unit", "new p pair"):
            self.check("", body(f"{made}\nat r p x\ngive x", "x"), ("main", "a", 1))
            self.check("", body(f"{made}\nset p x x\ngive x", "x"), ("main", "a", 1))

    def test_several_sites_ascending(self):
        text = "kind box key left\nkind pair left right\nfunction main x\nblock m\nrow p x\nnew q pair\nnew r box\n" \
               "if x z p / y q\nblock z b\nnew s box\nif x k b / k s\nblock y c\nif x k c / k r\nblock k o\n" \
               "get t o left\nget u o right\nput o key x\nat v o x\ngive x"
        value = module(text)
        for index, expected in ((0, "m/1.left m/2.left z/0.left"), (1, "m/1.right"), (2, "m/2.key z/0.key"), (3, "m/0")):
            self.check(expected, value, ("main", "k", index))

    def test_in_a_function_that_is_not_live(self):
        value = module("kind unit one\nfunction main\nblock a\nnone o\ngive o\nfunction other\nblock a\nnew p unit\n"
                       "put p one p\ngive p")
        self.check("", value, ("other", "a", 1))


# main calls fill (which writes, and calls peek) and asks peek (which reads); loud shows; idle is not live.
FIVE = module("""
kind box key left
kind pair left right
function fill p x
block a
put p left x
call r peek p
give r
function idle p
block a
new q box
put q key p
get r p left
show p
give r
function loud
block a
new q box
num n 3
put q key n
get r q key
show r
give q
function main x
block a
new p pair
call r fill p x
fun f peek
ask s f p
call t loud
get u t left
row w x
set w x p
at v w x
give u
function peek p
block a
get r p right
give r
""")


class Functions(unittest.TestCase):
    def check(self, name, read, written, open_read, open_written, loud, calm):
        self.assertEqual(reads(FIVE, name), cell_list(read))
        self.assertEqual(writes(FIVE, name), cell_list(written))
        self.assertEqual(open_reads(FIVE, name), cell_list(open_read))
        self.assertEqual(open_writes(FIVE, name), cell_list(open_written))
        self.assertIs(shows(FIVE, name), loud)
        self.assertIs(is_calm(FIVE, name), calm)

    def test_of_its_own_and_of_all_that_it_can_call(self):
        self.check("peek", "main:a/0.right", "", "main:a/0.right", "", False, True)
        self.check("fill", "main:a/0.right", "main:a/0.left", "main:a/0.right", "main:a/0.left", False, False)
        self.check("loud", "loud:a/0.key", "loud:a/0.key", "", "", True, False)
        self.check("main", "main:a/6 loud:a/0.key loud:a/0.left main:a/0.right",
                   "main:a/6 loud:a/0.key main:a/0.left", "", "", True, False)

    def test_a_function_that_is_not_live(self):
        self.check("idle", "", "", "", "", False, False)

    def test_what_main_does_itself_is_calm(self):
        value = body("new p pair\nput p left x\nget r p left\nrow w x\nset w x p\ngive p", "x")
        self.assertEqual(open_writes(value, "main"), [])
        self.assertIs(is_calm(value, "main"), True)

    def test_a_show_makes_no_function_calm(self):
        self.assertIs(is_calm(body("show x\ngive x", "x"), "main"), False)
        self.assertIs(shows(body("show x\ngive x", "x"), "main"), True)
        self.assertIs(is_calm(body("give x", "x"), "main"), True)

    def test_blocks_that_are_not_reached(self):
        value = module("kind unit one\nfunction main x\nblock a\nnew p unit\ngive p\nblock b\nshow x\nput p one x\n"
                       "get q p one\ngive q")
        self.assertEqual((shows(value, "main"), reads(value, "main"), writes(value, "main")), (False, [], []))
        self.assertIs(is_calm(value, "main"), True)

    def test_functions_that_call_each_other(self):
        value = module("""
kind pair left right
function down p x
block a
put p left x
call r up p x
give r
function main x
block a
new p pair
call r up p x
give r
function up p x
block a
if x b / c
block b
show x
get q p right
call r down p x
give r
block c
give x
""")
        for name in ("up", "down"):
            self.assertEqual(reads(value, name), [cell("a/0.right")])
            self.assertEqual(open_reads(value, name), [cell("a/0.right")])
            self.assertEqual(writes(value, name), [cell("a/0.left")])
            self.assertEqual(open_writes(value, name), [cell("a/0.left")])
            self.assertIs(shows(value, name), True)

    def test_an_ask_of_what_is_no_function_touches_nothing(self):
        self.assertEqual(reads(body("ask r x\ngive x", "x"), "main"), [])


class Outside(unittest.TestCase):
    def test_what_parameters_reach(self):
        value = module("""
kind pair left right
function deep p
block a
get q p left
get r q right
num n 0
set r n p
new s pair
put s left p
put q right s
give s
function main x
block a
new p pair
new q pair
row w x
new apart pair
put p left q
put q right w
call r deep p
give r
""")
        own = ("deep", "a", 4)
        # The object that deep makes is in the reach of its parameter, as it is put into one there.
        self.assertEqual(writes(value, "deep"), [
            ("element", ("main", "a", 2)), ("field", own, "left"), ("field", ("main", "a", 1), "right"),
        ])
        self.assertEqual(open_writes(value, "deep"), writes(value, "deep"))
        # Its register r holds that object, too, which has no elements, and None.
        self.assertEqual(open_reads(value, "deep"), [("field", ("main", "a", 0), "left"), ("field", ("main", "a", 1), "right")])
        self.assertEqual(open_writes(value, "main"), [])
        self.assertEqual(reach(value, [site("main", "a", 0)]), [
            NONE, NUMBER, site("deep", "a", 4), site("main", "a", 0), site("main", "a", 1), site("main", "a", 2),
        ][:1] + [site("deep", "a", 4), site("main", "a", 0), site("main", "a", 1), site("main", "a", 2)])

    def test_what_a_function_makes_itself_is_not_outside(self):
        value = module("""
kind pair left right
function main x
block a
new p pair
call r make p
put r left x
give r
function make p
block a
new q pair
put q left p
get r q left
get s p right
put q right s
give q
""")
        self.assertEqual(writes(value, "make"), [cell("make:a/0.left"), cell("make:a/0.right")])
        self.assertEqual(open_writes(value, "make"), [])
        self.assertEqual(open_reads(value, "make"), [cell("main:a/0.right")])
        self.assertEqual(reads(value, "make"), [cell("main:a/0.right"), cell("make:a/0.left")])
        self.assertIs(is_calm(value, "make"), True)

    def test_a_site_that_a_function_gets_from_an_earlier_call_of_itself(self):
        value = module("""
kind unit one
function main x
block a
new p unit
call q again p
call r again q
give r
function again p
block a
new q unit
put q one p
give q
""")
        self.assertEqual(open_writes(value, "again"), [("field", ("again", "a", 0), "one")])
        self.assertIs(is_calm(value, "again"), False)


class CallEffects(unittest.TestCase):
    def check(self, value, place, read, written, loud):
        self.assertEqual(call_effects(value, place), (cell_list(read), cell_list(written), loud))

    def test_one_goal(self):
        self.check(FIVE, ("main", "a", 1), "main:a/0.right", "main:a/0.left", False)
        self.check(FIVE, ("main", "a", 3), "main:a/0.right", "", False)
        self.check(FIVE, ("main", "a", 4), "loud:a/0.key", "loud:a/0.key", True)
        self.check(FIVE, ("fill", "a", 1), "main:a/0.right", "", False)

    def test_several_goals(self):
        value = module("""
kind box key left
function main x
block a
new p box
fun f read
fun g write
fun h loud
fun i two
if x b / c
block b
if x e f / e g
block c
if x e h / e i
block e k
ask r k p
give r
function loud p
block a
num n 1
show n
give p
function read p
block a
get q p key
get r p left
give q
function two p q
block a
put p key q
show p
give q
function write p
block a
put p left p
get q p left
give q
""")
        self.check(value, ("main", "e", 0), "a/0.key a/0.left", "a/0.left", True)
        result = call_effects(value, ("main", "e", 0))
        self.assertEqual([type(part) for part in result], [list, list, bool])

    def test_cells_of_several_goals_ascend_together(self):
        value = module("""
kind pair left right
function first p q
block a
put q left p
get r q right
give r
function main x
block a
new p pair
new q pair
fun f first
fun g second
if x b f / b g
block b k
ask r k p q
give r
function second p q
block a
put p left q
get r p right
give r
""")
        self.check(value, ("main", "b", 0), "a/0.right a/1.right", "a/0.left a/1.left", False)

    def test_no_goal(self):
        self.check(body("ask r x\ngive x", "x"), ("main", "a", 0), "", "", False)
        value = module("function main\nblock a\nnone o\ngive o\nfunction other x\nblock a\nshow x\ncall r other x\ngive r")
        self.check(value, ("other", "a", 1), "", "", False)


class Reach(unittest.TestCase):
    VALUE = module("""
kind pair left right
function main x
block a
new p pair
new q pair
row w x
fun f idle
put p left q
put q left w
put q right f
set w x p
new r pair
put r left r
give p
block dead
new s pair
give s
function idle
block a
new t pair
put t left t
give t
""")
    P, Q, W, R = [site("main", "a", index) for index in (0, 1, 2, 8)]
    IDLE = site("idle", "a", 0)

    def check(self, things, expected):
        self.assertEqual(reach(self.VALUE, things), expected)
        self.assertEqual(reach(self.VALUE, tuple(things)), expected)
        self.assertEqual(reach(self.VALUE, things * 2), expected)

    def test_things_of_each_sort(self):
        self.check([], [])
        for thing in (NUMBER, NONE, ("fun", "idle"), ("fun", "main")):
            self.check([thing], [thing])
        ring = [("fun", "idle"), NONE, self.P, self.Q, self.W]
        for thing in (self.P, self.Q, self.W):
            self.check([thing], ring)
        self.check([self.R], [NONE, self.R])
        self.check([NUMBER, self.R, ("fun", "main")], [("fun", "main"), NONE, NUMBER, self.R])
        self.check([self.R, self.P], [*ring, self.R])

    def test_a_site_of_a_function_that_is_not_live(self):
        self.check([self.IDLE], [self.IDLE])

    def test_invalid_things(self):
        good = [NUMBER]
        wrong = [one for one in samples.STRAYS if one not in ((), [])]
        for value in (*wrong, NUMBER, self.P, "number", {NUMBER: 1}, [NUMBER, "number"], [list(NUMBER)], [good],
                      [("fun", "nowhere")], [("fun", ["idle"])], [("fun",)], [("fun", "idle", 1)], [("number", 1)],
                      [("none", None)], [site("main", "a", 4)], [site("main", "a", 11)], [site("main", "dead", 0)],
                      [site("main", "a", False)], [("site", ["main", "a", 0])], [("site", ("main", "a"))], [("site", {})],
                      [("element", ("main", "a", 2))], [NUMBER, None], [NUMBER, []], [({}, "main")],
                      run(self.VALUE, [1]), [run(self.VALUE, [1])]):
            with self.assertRaises(InvalidThings) as caught:
                reach(self.VALUE, value)
            self.assertIs(caught.exception.value, value)

    def test_a_bool_in_the_place_of_an_index(self):
        with self.assertRaises(InvalidThings):
            reach(self.VALUE, [site("main", "a", True)])
        self.check([site("main", "a", 1)], [("fun", "idle"), NONE, self.P, self.Q, self.W])


class SecondAnswer(unittest.TestCase):
    def test_drawn_modules(self):
        source = random.Random(25)
        calm, opened = [], 0
        for _ in range(150):
            value = drawn.draw_module(source, source.randint(1, 5), 3, 8)
            told = Told(value)
            for name in told.world.functions:
                self.assertEqual(reads(value, name), sorted(told.reads(name)))
                self.assertEqual(writes(value, name), sorted(told.writes(name)))
                self.assertEqual(open_reads(value, name), sorted(told.opened(name, told.reads(name))))
                self.assertEqual(open_writes(value, name), sorted(told.opened(name, told.writes(name))))
                self.assertIs(shows(value, name), told.shows(name))
                self.assertIs(is_calm(value, name), told.is_calm(name))
                calm.append(told.is_calm(name))
                opened += len(open_writes(value, name)) > 0
            for place, thing in told.world.places:
                if thing[0] in ("get", "put", "at", "set"):
                    self.assertEqual(cells(value, place), sorted(told.cells(place)))
                elif thing[0] in ("call", "ask"):
                    goals = told.goals(place, thing)
                    read = sorted({one for goal in goals for one in told.reads(goal)})
                    written = sorted({one for goal in goals for one in told.writes(goal)})
                    self.assertEqual(call_effects(value, place), (read, written, any([told.shows(one) for one in goals])))
            things = [source.choice(told.world.all_things()) for _ in range(source.randint(0, 3))]
            self.assertEqual(reach(value, things), sorted(told.reach(things)))
        self.assertGreater(min(calm.count(True), calm.count(False)), 30)
        self.assertGreater(opened, 3)

    def test_the_cells_that_runs_touch(self):
        source = random.Random(26)
        many = 0
        for _ in range(200):
            value = drawn.draw_module(source, 4, 4, 8)
            inputs = [source.randint(-1, 3) for _ in naive.World(value).functions["main"][1]]
            made = run(value, inputs, 300).made
            words = dict(naive.places_of(value))
            for place, (number, name), _ in touched(value, inputs, 300):
                one = naive.cell(made[number], None if isinstance(name, int) else name)
                self.assertIn(one, cells(value, place))
                self.assertIn(one, (reads if words[place][0] in ("get", "at") else writes)(value, place[0]))
                self.assertIn(one, (reads if words[place][0] in ("get", "at") else writes)(value, "main"))
                many += 1
        self.assertGreater(many, 200)


if __name__ == "__main__":
    unittest.main()
