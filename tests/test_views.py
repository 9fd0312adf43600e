"""Promises 2, 29: facts by the places of calls."""

import random
import unittest

import drawn
import naive
import samples
from clobberwalk.errors import InvalidView, UnknownName
from clobberwalk.facts import facts, given_by, goals, holds, kept, live
from clobberwalk.machine import run
from clobberwalk.views import given_in, goals_split, holds_in, kept_split, views
from naive_seen import split_closure
from tracer import Tracer
from written import body, module

NUMBER, NONE = ("number",), ("none",)


def site(*place):
    return ("site", place)


# same is called with an integer, with a box, and with nothing at all; it is asked by wrap, with what wrap was passed.
VALUE = module("""
kind box key
function main x
block a
call i same x
new p box
call j same p
none o
call k wrap o
call l wrap p
put p key j
give l
block dead
call m same o
give m
function same y
block b
give y
function wrap z
block c
fun g same
ask w g z
give w
""")
FIRST, SECOND, THIRD, FOURTH = [("main", "a", index) for index in (0, 2, 4, 5)]
ASK = ("wrap", "c", 1)
BOX = site("main", "a", 1)


class Views(unittest.TestCase):
    def test_none_first_then_ascending(self):
        self.assertEqual(views(VALUE, "main"), [None])
        self.assertEqual(views(VALUE, "same"), [FIRST, SECOND, ASK])
        self.assertEqual(views(VALUE, "wrap"), [THIRD, FOURTH])

    def test_main_that_is_called_too(self):
        text = "function f x\nblock z\ncall r main x\ngive r\nfunction main x\nblock b\nif x c / d\nblock d\ncall r f x\ngive r\n" \
               "block c\ncall q main x\ngive q"
        value = module(text)
        self.assertEqual(views(value, "main"), [None, ("f", "z", 0), ("main", "c", 0)])
        self.assertEqual(views(value, "f"), [("main", "d", 0)])

    def test_what_a_register_holds_in_each(self):
        for view, expected in ((FIRST, [NUMBER]), (SECOND, [BOX]), (ASK, [NONE, BOX])):
            self.assertEqual(holds_in(VALUE, "same", "y", view), expected)
            self.assertEqual(given_in(VALUE, "same", view), expected)
        for view, expected in ((THIRD, [NONE]), (FOURTH, [BOX])):
            self.assertEqual(holds_in(VALUE, "wrap", "z", view), expected)
            # The ask has one place, so its two calls are told together.
            self.assertEqual(given_in(VALUE, "wrap", view), [NONE, BOX])
        self.assertEqual(holds(VALUE, "same", "y"), [NONE, NUMBER, BOX])

    def test_what_main_holds(self):
        for local, expected in (("x", [NUMBER]), ("i", [NUMBER]), ("j", [BOX]), ("k", [NONE, BOX]), ("l", [NONE, BOX]), ("p", [BOX])):
            self.assertEqual(holds_in(VALUE, "main", local, None), expected)
        self.assertEqual(given_in(VALUE, "main", None), [NONE, BOX])

    def test_fields_have_no_view(self):
        self.assertEqual(kept_split(VALUE, ("main", "a", 1)), {"key": [NONE, BOX]})
        self.assertEqual(kept(VALUE, ("main", "a", 1)), {"key": [NONE, NUMBER, BOX]})
        value = module("kind box key\nfunction load y\nblock b\nget r y key\ngive r\nfunction main x\nblock a\nnew p box\n"
                       "call i store p x\nnew q box\ncall j store q p\ncall k load p\ngive k\nfunction store y z\nblock c\n"
                       "put y key z\ngive z")
        one, other = ("main", "a", 0), ("main", "a", 2)
        self.assertEqual(kept_split(value, one), {"key": [NONE, NUMBER]})
        self.assertEqual(kept_split(value, other), {"key": [NONE, ("site", one)]})
        self.assertEqual(holds_in(value, "main", "k", None), [NONE, NUMBER])
        self.assertEqual(kept(value, one), {"key": [NONE, NUMBER, ("site", one)]})

    def test_elements_and_the_order_of_fields(self):
        value = body("row q x\nset q x q\nat r q x\nnew p pair\nput p right r\nget s p right\ngive s", "x")
        self.assertEqual(kept_split(value, ("main", "a", 0)), {None: [NONE, site("main", "a", 0)]})
        self.assertEqual(list(kept_split(value, ("main", "a", 3)).items()),
                         [("left", [NONE]), ("right", [NONE, site("main", "a", 0)])])
        self.assertEqual(holds_in(value, "main", "s", None), [NONE, site("main", "a", 0)])

    def test_what_blocks_get(self):
        value = module("function main x\nblock a\nnone o\nif x b o / b x\nblock b y\ngo c y y\nblock c z w\ngive w")
        for local in "yzw":
            self.assertEqual(holds_in(value, "main", local, None), [NONE, NUMBER])

    def test_integers_none_functions(self):
        value = body("num n 1\nnone o\nfun f main\nadd a n n\nsub b n n\nmul c n n\nless d n n\nnot e n\nsame g o f\ngive n")
        for local, expected in zip("nofabcdeg", [[NUMBER], [NONE], [("fun", "main")], *[[NUMBER]] * 6]):
            self.assertEqual(holds_in(value, "main", local, None), expected)


class Asks(unittest.TestCase):
    VALUE = module("""
function one y
block b
give y
function main x
block a
fun f one
fun g two
if x c f / c g
block c h
ask r h x
ask s h x x
ask t h
ask u x x
give r
function two y z
block b
give z
""")

    def test_fitting_and_unfitting_numbers_of_parameters(self):
        for index, expected in enumerate((["one"], ["two"], [], [])):
            self.assertEqual(goals_split(self.VALUE, ("main", "c", index)), expected)
        self.assertEqual(views(self.VALUE, "one"), [("main", "c", 0)])
        self.assertEqual(views(self.VALUE, "two"), [("main", "c", 1)])

    def test_of_all_views_together(self):
        text = "function main x\nblock a\nfun f one\nfun g two\ncall r use f\ncall s use g\ngive r\n" \
               "function one\nblock b\nnum n 1\ngive n\nfunction two\nblock b\nnone n\ngive n\nfunction use h\nblock c\nask q h\ngive q"
        value = module(text)
        self.assertEqual(goals_split(value, ("use", "c", 0)), ["one", "two"])
        self.assertEqual(holds_in(value, "use", "h", ("main", "a", 2)), [("fun", "one")])
        # The place of the ask is one for both views of use; so its goals are told together in each.
        self.assertEqual(given_in(value, "use", ("main", "a", 2)), [NUMBER])
        self.assertEqual(given_in(value, "use", ("main", "a", 3)), [NONE])
        for name in ("one", "two"):
            self.assertEqual(views(value, name), [("use", "c", 0)])

    def test_fewer_goals_than_without_views(self):
        text = "function main x\nblock a\nfun f one\ncall r id f\ncall s id x\nfun g two\ncall t id g\nask u r\ngive u\n" \
               "function id y\nblock b\ngive y\nfunction one\nblock b\nnum n 1\ngive n\nfunction two\nblock b\nnone n\ngive n"
        value = module(text)
        place = ("main", "a", 5)
        self.assertEqual(goals(value, place), ["one", "two"])
        self.assertEqual(goals_split(value, place), ["one"])
        # two is live, but it is live in no view.
        self.assertEqual(live(value), ["id", "main", "one", "two"])
        self.assertEqual(views(value, "two"), [])
        self.assertEqual(holds(value, "two", "n"), [NONE])
        for view in (None, place):
            with self.assertRaises(InvalidView):
                holds_in(value, "two", "n", view)

    def test_calls_in_a_function_that_is_live_in_no_view(self):
        text = "function main x\nblock a\nfun f one\ncall r id f\nfun g two\ncall t id g\nask u r\ngive u\n" \
               "function id y\nblock b\ngive y\nfunction last\nblock b\nnone n\ngive n\nfunction one\nblock b\nnum n 1\ngive n\n" \
               "function two\nblock b\nnew p box\ncall n last\nask m n\ngive n\nkind box key"
        value = module(text)
        self.assertEqual(goals(value, ("two", "b", 1)), ["last"])
        self.assertEqual(goals_split(value, ("two", "b", 1)), [])
        self.assertEqual(views(value, "last"), [])
        self.assertEqual(kept(value, ("two", "b", 0)), {"key": [NONE]})
        self.assertEqual(kept_split(value, ("two", "b", 0)), {"key": []})


class Rings(unittest.TestCase):
    def test_a_ring_of_two(self):
        text = "function main x\nblock a\ncall r one x\ngive r\nfunction one y\nblock b\nnew p box\nif y c / d\nblock c\ngive p\n" \
               "block d\ncall s two p\ngive s\nfunction two z\nblock b\ncall t one z\ngive t\nkind box key"
        value = module(text)
        start, into, back = ("main", "a", 0), ("one", "d", 0), ("two", "b", 0)
        self.assertEqual(views(value, "one"), [start, back])
        self.assertEqual(views(value, "two"), [into])
        self.assertEqual(holds_in(value, "one", "y", start), [NUMBER])
        self.assertEqual(holds_in(value, "one", "y", back), [site("one", "b", 0)])
        self.assertEqual(given_in(value, "one", start), [site("one", "b", 0)])

    def test_a_ring_of_one(self):
        value = module("function main x\nblock a\nnone o\ncall r main o\ngive r")
        self.assertEqual(views(value, "main"), [None, ("main", "a", 1)])
        self.assertEqual(holds_in(value, "main", "x", None), [NUMBER])
        self.assertEqual(holds_in(value, "main", "x", ("main", "a", 1)), [NONE])
        self.assertEqual(given_in(value, "main", None), [])


class Edges(unittest.TestCase):
    def test_functions_that_are_not_live(self):
        value = module("function main x\nblock a\ngive x\nfunction other y\nblock a\nfun f other\nask r f y\ncall s main y\ngive r")
        self.assertEqual(views(value, "other"), [])
        self.assertEqual(views(value, "main"), [None])
        self.assertEqual(goals_split(value, ("other", "a", 1)), [])
        self.assertEqual(goals_split(value, ("other", "a", 2)), [])

    def test_calls_in_blocks_that_are_not_reached(self):
        self.assertNotIn(("main", "dead", 0), views(VALUE, "same"))
        with self.assertRaises(InvalidView):
            given_in(VALUE, "same", ("main", "dead", 0))
        self.assertEqual(holds_in(VALUE, "main", "m", None), [])

    def test_invalid_views(self):
        wrong = [*[one for one in samples.STRAYS if one is not None], list(FIRST), ("main", "a", False), FIRST[:2], (*FIRST, 0), THIRD,
                 ("main", "a", 1), ("same", "b", 0), "main", (FIRST,), run(samples.RICH, [1]), ("main", "a", 0.0)[:2]]
        for value in [*wrong, None]:
            for function, more in ((holds_in, ("y",)), (given_in, ())):
                with self.assertRaises(InvalidView) as caught:
                    function(VALUE, "same", *more, value)
                self.assertIs(caught.exception.value, value)
        for value in [*wrong, FIRST]:
            with self.assertRaises(InvalidView):
                given_in(VALUE, "main", value)

    def test_the_first_place_is_a_view_but_not_with_false(self):
        self.assertEqual(given_in(VALUE, "same", ("main", "a", 0)), [NUMBER])

    def test_unknown_names_come_first(self):
        for function, args in ((holds_in, ("same", "nowhere", 7)), (holds_in, ("nowhere", "y", 7)), (given_in, ("nowhere", 7))):
            with self.assertRaises(UnknownName) as caught:
                function(VALUE, *args)
            self.assertEqual(caught.exception.value, "nowhere")


class SecondAnswer(unittest.TestCase):
    def test_drawn_modules(self):
        source = random.Random(29)
        several = fewer = 0
        for _ in range(90):
            value = drawn.draw_module(source, 4, 3, 9, source.choice((None, "box", "fun")))
            world = naive.World(value)
            told, alive = split_closure(value)
            self.assertLessEqual({(holder, thing) for holder, _, thing in told}, set(facts(value)))
            for f, function in world.functions.items():
                expected = [view for name, view in alive if name == f]
                places = sorted([view for view in expected if view is not None])
                self.assertEqual(views(value, f), ([None] if None in expected else []) + places)
                several += len(expected) > 1
                for view in expected:
                    given = sorted([thing for holder, at, thing in told if (holder, at) == (("given", f), view)])
                    self.assertEqual(given_in(value, f, view), given)
                    fewer += given != given_by(value, f)
                    for local in naive.registers_of(function):
                        held = sorted([one for holder, at, one in told if (holder, at) == (("register", f, local), view)])
                        self.assertEqual(holds_in(value, f, local, view), held)
                        fewer += held != holds(value, f, local)
            for place, thing in world.places:
                if thing[0] in ("new", "row"):
                    self.assertEqual(kept_split(value, place), {
                        field: sorted([one for holder, _, one in told if holder == naive.cell(place, field)])
                        for field in world.fields_at(place)
                    })
                elif thing[0] in ("call", "ask"):
                    self.assertEqual(goals_split(value, place), sorted({name for name, view in alive if view == place}))
        self.assertGreater(several, 20)
        self.assertGreater(fewer, 5)

    def test_runs_hold_what_is_told_for_the_view(self):
        source = random.Random(30)
        count = 0
        for _ in range(120):
            value = drawn.draw_module(source, 4, 3, 8)
            tracer = Tracer(value, 200)
            tracer.run([source.randint(-1, 3) for _ in tracer.world.functions["main"][1]])
            seen = {(call.f, local, call.view, naive.thing_of(held)) for call, local, held in tracer.holds}
            for f, local, view, thing in seen:
                self.assertIn(thing, holds_in(value, f, local, view))
                count += view is not None
            for call, given, _ in tracer.finished:
                self.assertIn(naive.thing_of(given), given_in(value, call.f, call.view))
        self.assertGreater(count, 100)


if __name__ == "__main__":
    unittest.main()
