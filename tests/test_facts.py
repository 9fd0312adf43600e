"""Promises 2, 15, 16: what registers, parameters and cells hold, which functions are live, what calls can call."""

import random
import unittest

import drawn
import naive
import samples
from clobberwalk.errors import UnknownName
from clobberwalk.facts import facts, given_by, goals, holds, kept, live
from written import body, module

NUMBER, NONE = ("number",), ("none",)


def fun(name):
    return ("fun", name)


def site(f, block, index):
    return ("site", (f, block, index))


class Facts(unittest.TestCase):
    def holds(self, value, f, text):
        """Check registers: "x number, y none a/0, z" with sites of the function as block/index."""
        for row in text.split(","):
            local, *words = row.split()
            things = []
            for word in words:
                if "/" in word:
                    things.append(site(f, word.split("/")[0], int(word.split("/")[1])))
                else:
                    things.append((word,) if word in ("number", "none") else fun(word))
            self.assertEqual(holds(value, f, local), sorted(things), local)


class Rules(Facts):
    def test_start(self):
        value = body("give x", "x y")
        self.holds(value, "main", "x number, y number")
        self.assertEqual(live(value), ["main"])
        self.assertEqual(facts(body("give x", "x")), [
            (("given", "main"), NUMBER), (("register", "main", "x"), NUMBER),
        ])

    def test_make(self):
        value = body(
            "num n 1\nnone o\nfun f main\nadd a o o\nsub b o o\nmul c f o\nless d o o\nnot e o\nsame g o f\n"
            "new p pair\nnew q unit\nrow r n\ngive n"
        )
        self.holds(value, "main", "n number, o none, f main, a number, b number, c number, d number, e number, g number")
        self.holds(value, "main", "p a/9, q a/10, r a/11")
        self.assertEqual(kept(value, ("main", "a", 9)), {"left": [NONE], "right": [NONE]})
        self.assertEqual(list(kept(value, ("main", "a", 9))), ["left", "right"])
        self.assertEqual(kept(value, ("main", "a", 10)), {})
        self.assertEqual(kept(value, ("main", "a", 11)), {None: [NONE]})

    def test_the_fields_in_the_order_of_the_kind(self):
        value = body("new p odd\ngive p", "", "kind odd z a m")
        self.assertEqual(list(kept(value, ("main", "a", 0))), ["z", "a", "m"])

    def test_pass(self):
        value = module("""
function main x
block a
none o
fun f main
if x b o f / c f
block b p q
go c q
block c r
if x b o x / b o r
""")
        self.holds(value, "main", "p none, q main number, r main number")

    def test_an_arm_that_no_run_goes_counts(self):
        value = module("function main\nblock a\nnum z 0\nnone o\nif z b o / b z\nblock b p\ngive p")
        self.holds(value, "main", "p none number")
        self.assertEqual(given_by(value, "main"), [NONE, NUMBER])

    def test_put_and_get(self):
        value = body("new p pair\nnew q box\nput p left x\nput q left p\nget r p left\nget s q left\nget t p right\n"
                     "get u q key\nget v s left\ngive v", "x")
        self.holds(value, "main", "r number none, s none a/0, t none, u none, v none number")
        self.assertEqual(kept(value, ("main", "a", 0)), {"left": [NONE, NUMBER], "right": [NONE]})
        self.assertEqual(kept(value, ("main", "a", 1)), {"key": [NONE], "left": [NONE, site("main", "a", 0)]})

    def test_the_order_of_the_instructions_means_nothing(self):
        value = body("new p pair\nget r p left\nput p left x\ngive r", "x")
        self.holds(value, "main", "r none number")

    def test_put_and_get_of_what_has_no_such_field(self):
        value = body("new p box\nnone o\nrow r x\nput p right x\nput o left x\nput r left x\nget s p right\n"
                     "get t o left\nget u r left\nget v x left\ngive v", "x")
        self.holds(value, "main", "s, t, u, v")
        self.assertEqual(kept(value, ("main", "a", 0)), {"key": [NONE], "left": [NONE]})
        self.assertEqual(kept(value, ("main", "a", 2)), {None: [NONE]})

    def test_set_and_at(self):
        value = body("none o\nrow p x\nset p x p\nset p o x\nat r p x\nat s o x\nnew q pair\nset q x x\nat t q x\n"
                     "give r", "x")
        self.holds(value, "main", "r none number a/1, s, t")
        self.assertEqual(kept(value, ("main", "a", 1)), {None: [NONE, NUMBER, site("main", "a", 1)]})
        self.assertEqual(kept(value, ("main", "a", 6)), {"left": [NONE], "right": [NONE]})

    def test_all_elements_of_a_row_are_one_holder(self):
        value = body("row p x\nfun f main\nset p x f\nset p y p\nat r p z\ngive r", "x y z")
        self.holds(value, "main", "r main none a/0")

    def test_several_sites(self):
        value = module("""
kind box key left
kind pair left right
function main x
block a
if x b / c
block b
new p pair
go d p
block c
new q box
go d q
block d r
put r left x
get s r left
get t r key
give t
""")
        self.holds(value, "main", "r b/0 c/0, s none number, t none")
        self.assertEqual(kept(value, ("main", "b", 0)), {"left": [NONE, NUMBER], "right": [NONE]})

    def test_call(self):
        value = module("""
function main x
block a
none o
call r other x o
call s other o x
give r
function other p q
block b
fun f main
if p c / d
block c
give f
block d
give q
""")
        self.assertEqual(live(value), ["main", "other"])
        self.holds(value, "other", "p none number, q none number")
        self.holds(value, "main", "r main none number, s main none number")
        self.assertEqual(given_by(value, "other"), [fun("main"), NONE, NUMBER])
        self.assertEqual(given_by(value, "main"), [fun("main"), NONE, NUMBER])

    def test_a_call_that_gives_nothing_makes_nothing(self):
        value = module("function main\nblock a\ncall r ring\ngive r\nfunction ring\nblock a\ncall r ring\ngive r")
        self.holds(value, "main", "r")
        self.assertEqual(given_by(value, "main"), [])
        self.assertEqual(live(value), ["main", "ring"])
        self.assertEqual(facts(value), [])

    def test_ask(self):
        value = module("""
function main x
block a
fun f one
ask r f x
ask s f x x
ask t x x
give r
function one p
block b
give p
""")
        self.assertEqual(live(value), ["main", "one"])
        self.holds(value, "main", "r number, s, t")
        self.holds(value, "one", "p number")

    def test_an_ask_of_several_functions_and_of_other_numbers_of_parameters(self):
        value = module("""
function main x
block a
if x b / c
block b
fun f one
go e f
block c
if x d / g
block d
fun h two
go e h
block g
fun i zero
go e i
block e k
none o
ask r k o
ask s k
ask t k o o o
give r
function one p
block a
give p
function three p q u
block a
give p
function two p q
block a
give p
function zero
block a
num n 1
give n
""")
        self.holds(value, "main", "k one two zero, r none, s number, t")
        self.assertEqual(live(value), ["main", "one", "zero"])
        self.assertEqual(goals(value, ("main", "e", 1)), ["one"])
        self.assertEqual(goals(value, ("main", "e", 2)), ["zero"])
        self.assertEqual(goals(value, ("main", "e", 3)), [])
        self.holds(value, "two", "p, q")

    def test_give(self):
        value = module("function main x\nblock a\nif x b / c\nblock b\nnone o\ngive o\nblock c\nfun f main\ngive f")
        self.assertEqual(given_by(value, "main"), [fun("main"), NONE])

    def test_show_and_the_condition_of_an_if_make_nothing(self):
        self.assertEqual(facts(body("show x\nshow x\ngive x", "x")), facts(body("give x", "x")))

    def test_main_that_is_called(self):
        value = module("function main x\nblock a\nnone o\ncall r main o\ngive r")
        self.holds(value, "main", "x none number, r")

    def test_functions_in_cells(self):
        value = module("""
kind box key left
function main x
block a
new p box
fun f one
put p key f
row q x
get g p key
set q x g
at h q x
ask r h p
give r
function one p
block b
get f p key
give f
""")
        self.assertEqual(live(value), ["main", "one"])
        self.holds(value, "main", "h none one, r none one")
        self.assertEqual(goals(value, ("main", "a", 7)), ["one"])
        self.assertEqual(holds(value, "one", "p"), [site("main", "a", 0)])


class LeftOut(Facts):
    DEAD = module("""
kind box key left
function main x
block a
new p box
give p
block dead n
none o
put p key o
call r other o
new q box
go last o
block last t
give t
function other p
block a
new u box
give u
""")

    def test_blocks_that_are_not_reached(self):
        self.holds(self.DEAD, "main", "n, o, r, q, t, p a/0, x number")
        self.assertEqual(live(self.DEAD), ["main"])
        self.assertEqual(kept(self.DEAD, ("main", "a", 0)), {"key": [NONE], "left": [NONE]})

    def test_functions_that_are_not_live(self):
        self.assertEqual(holds(self.DEAD, "other", "p"), [])
        self.assertEqual(holds(self.DEAD, "other", "u"), [])
        self.assertEqual(given_by(self.DEAD, "other"), [])
        self.assertEqual(kept(self.DEAD, ("other", "a", 0)), {"key": [], "left": []})

    def test_no_goals_in_a_function_that_is_not_live(self):
        value = module("function main\nblock a\nnone o\ngive o\nfunction other\nblock a\ncall r other\nfun f other\n"
                       "ask s f\ngive r")
        self.assertEqual(goals(value, ("other", "a", 0)), [])
        self.assertEqual(goals(value, ("other", "a", 2)), [])
        self.assertEqual(live(value), ["main"])

    def test_a_function_that_is_only_named_is_not_live(self):
        value = module("function main\nblock a\nfun f other\ngive f\nfunction other\nblock a\nnone o\ngive o")
        self.assertEqual(live(value), ["main"])
        self.assertEqual(given_by(value, "main"), [fun("other")])

    def test_an_ask_in_front_of_what_it_needs(self):
        value = module("""
function main x
block a
none o
go b o
block b f
ask r f
fun g other
if x b g / c
block c
give r
function other
block a
num n 1
give n
""")
        self.assertEqual(live(value), ["main", "other"])
        self.holds(value, "main", "f none other, r number")


class Order(Facts):
    def test_facts_ascend_by_repr(self):
        # By repr a quotation mark stands before every letter, and a comma behind it.
        value = samples.RICH
        found = facts(value)
        self.assertEqual(found, sorted(found, key=repr))
        self.assertNotEqual(found, sorted(found))
        self.assertEqual(len(found), len(set(found)))

    def test_the_others_ascend(self):
        value = module("""
function a
block a
none o
give o
function main x
block z
new q unit
num n 1
row r n
fun f z
fun g a
none o
if x b f / b g
block b p
if x c p q / c p r
block c s t
give t
function z
block a
none o
give o
kind unit
""")
        self.assertEqual(holds(value, "main", "s"), [fun("a"), fun("z")])
        self.assertEqual(holds(value, "main", "t"), [site("main", "z", 0), site("main", "z", 2)])
        self.assertEqual(given_by(value, "main"), [site("main", "z", 0), site("main", "z", 2)])

    def test_things_of_all_sorts(self):
        value = body("new p pair\nput p left x\nput p left p\nfun f main\nput p left f\nget r p left\ngive r", "x")
        self.assertEqual(holds(value, "main", "r"), [fun("main"), NONE, NUMBER, site("main", "a", 0)])

    def test_sites_ascend_by_the_names_of_the_blocks(self):
        value = module("""
kind unit
function main x
block m
new a unit
if x z a / z a
block z b
new c unit
if x b b / b c
block b d
new e unit
if x k d / k e
block k f
give f
""")
        self.assertEqual(given_by(value, "main"), [site("main", "b", 0), site("main", "m", 0), site("main", "z", 0)])


class Errors(unittest.TestCase):
    def test_the_function_ahead_of_the_register(self):
        for f, local, expected in (("nowhere", "nothing", "nowhere"), ("main", "nothing", "nothing"), (1, 2, 1)):
            with self.assertRaises(UnknownName) as caught:
                holds(samples.RICH, f, local)
            self.assertEqual(caught.exception.value, expected)

    def test_registers_of_all_blocks_and_of_no_other_function(self):
        for local in ("x", "i", "j", "r", "s", "p", "aj", "k"):
            self.assertIsInstance(holds(samples.RICH, "main", local), list)
        for f, local in (("main", "a"), ("twin", "x"), ("main", "nowhere"), ("twin", "p")):
            with self.assertRaises(UnknownName) as caught:
                holds(samples.RICH, f, local)
            self.assertEqual(caught.exception.value, local)


class SecondAnswer(unittest.TestCase):
    def test_drawn_modules(self):
        source = random.Random(15)
        many = 0
        for _ in range(200):
            value = drawn.draw_module(source, source.randint(1, 5), 4, 10)
            told, lives = naive.closure(value)
            world = naive.World(value)
            self.assertEqual(facts(value), sorted(told, key=repr))
            self.assertEqual(live(value), sorted(lives))
            many += len(told)
            holding = {holder: [] for holder in world.holders()}
            for holder, one in sorted(told):
                holding[holder].append(one)
            for holder, expected in holding.items():
                if holder[0] == "register":
                    self.assertEqual(holds(value, *holder[1:]), expected)
                elif holder[0] == "given":
                    self.assertEqual(given_by(value, holder[1]), expected)
            for place, thing in world.places:
                if thing[0] in ("new", "row"):
                    cells = {field: holding[naive.cell(place, field)] for field in world.fields_at(place)}
                    self.assertEqual(kept(value, place), cells)
                elif thing[0] in ("call", "ask"):
                    self.assertEqual(goals(value, place), self.goals(world, holding, lives, place, thing))
        self.assertGreater(many, 2000)

    def goals(self, world, holding, lives, place, thing):
        if place[0] not in lives:
            return []
        if thing[0] == "call":
            return [thing[2]]
        names = [one[1] for one in holding[("register", place[0], thing[2])] if one[0] == "fun"]
        return [name for name in names if len(world.functions[name][1]) == len(thing[3])]

    def test_what_is_held_in_runs_is_told(self):
        source = random.Random(2)
        for _ in range(300):
            value = drawn.draw_module(source, 4, 5, 8)
            told = dict.fromkeys(facts(value))

            def watch(word, f, local, held):
                if word != "place":
                    holder = ("given", f) if word == "given" else ("register", f, local)
                    self.assertIn((holder, naive.thing_of(held)), told)

            machine = naive.Machine(value, 500, watch)
            machine.run([source.randint(-1, 3) for _ in machine.world.functions["main"][1]])
            self.assertLessEqual({place[0] for place, _, _ in machine.touched}, set(live(value)))


if __name__ == "__main__":
    unittest.main()
