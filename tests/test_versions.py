"""Promises 2, 30, 31: which accesses meet, who writes their cells, and which write an access sees."""

import random
import unittest

import drawn
import naive
import samples
from clobberwalk.errors import UnknownPlace, WrongPlace
from clobberwalk.machine import run, touched
from clobberwalk.versions import clobber, meets, seen, writers
from naive_seen import Seen
from tracer import Tracer
from written import body, module

START = ("start",)


def at(block, index, f="main"):
    return (f, block, index)


def writer(block, index, f="main"):
    return ("writer", (f, block, index))


class Meets(unittest.TestCase):
    def check(self, expected, value, one, other):
        self.assertEqual(meets(value, one, other), expected)
        self.assertEqual(meets(value, other, one), expected)

    def in_body(self, expected, text, one, other, kinds="kind box key left\nkind pair left right\nkind unit"):
        self.check(expected, body(text, "x", kinds), at("a", one), at("a", other))

    def test_never_by_cells(self):
        self.in_body("never", "new p pair\nnew q pair\nget r p left\nput q left x\ngive x", 2, 3)
        self.in_body("never", "new p pair\nget r p left\nput p right x\ngive x", 1, 2)
        self.in_body("never", "row p x\nrow q x\nat r p x\nset q x x\ngive x", 2, 3)
        self.in_body("never", "new p pair\nput p left p\nset p x x\nat r p x\ngive x", 1, 2)

    def test_never_by_unlike_integers(self):
        text = "row p x\nnum i 1\nnum j 2\nnum k 1\nset p i x\nat r p j\nat s p k\nat t p x\nset p x x\ngive x"
        self.in_body("never", text, 4, 5)
        self.in_body("surely", text, 4, 6)
        self.in_body("perhaps", text, 4, 7)
        self.in_body("surely", text, 7, 8)
        self.in_body("never", text, 5, 6)

    def test_unlike_integers_of_other_bases_and_functions(self):
        text = "function main x\nblock a\nrow p x\nnum i 1\nset p i x\ncall r other p\ngive r\nfunction other p\nblock a\nnum i 2\n" \
               "num j 1\nat q p i\nat r p j\ngive r"
        value = module(text)
        self.check("never", value, at("a", 2), at("a", 2, "other"))
        self.check("perhaps", value, at("a", 2), at("a", 3, "other"))
        text = "row p x\nnum i 1\nnum j 2\ngo b p\nblock b q\nset p i x\nat r q j\nat s q i\ngive x"
        value = body(text, "x")
        self.check("never", value, at("b", 0), at("b", 1))
        self.check("perhaps", value, at("b", 0), at("b", 2))

    def test_surely_by_the_same_field(self):
        text = "new p pair\nput p left x\nget r p left\nput p left r\nget s p left\ngive s"
        for one in range(1, 5):
            for other in range(1, 5):
                self.in_body("surely", text, one, other)

    def test_surely_though_there_are_two_objects(self):
        value = module("kind pair left right\nfunction main x\nblock a\nnew p pair\nnew q pair\nif x b p / b q\nblock b o\n"
                       "put o left x\nget r o left\ngive r")
        self.check("surely", value, at("b", 0), at("b", 1))

    def test_perhaps_by_two_registers(self):
        value = body("new p pair\ngo b p\nblock b q\nput p left x\nget r q left\nget s p left\ngive r", "x")
        self.check("perhaps", value, at("b", 0), at("b", 1))
        self.check("surely", value, at("b", 0), at("b", 2))

    def test_perhaps_by_unlike_functions(self):
        value = module("kind box key\nfunction main p\nblock a\nnew q box\ncall r other q\nget s q key\ngive s\nfunction other q\n"
                       "block a\nput q key q\nput q key q\ngive q")
        self.check("perhaps", value, at("a", 2), at("a", 0, "other"))
        self.check("surely", value, at("a", 0, "other"), at("a", 1, "other"))

    def test_the_same_index_register_is_enough(self):
        text = "row p x\nset p x x\ngo b x\nblock b i\nat r p i\nset p i r\nat s p x\ngive s"
        value = body(text, "x")
        self.check("surely", value, at("b", 0), at("b", 1))
        self.check("surely", value, at("a", 1), at("b", 2))
        self.check("perhaps", value, at("a", 1), at("b", 0))

    def test_integers_alone_are_not_enough_beside_another_base(self):
        value = body("row p x\nnum i 1\ngo b p\nblock b q\nset p i x\nat r q i\ngive r", "x")
        self.check("perhaps", value, at("b", 0), at("b", 1))

    def test_an_access_without_cells(self):
        for line in ("get r x left", "put x left x", "at r x x", "set x x x"):
            value = body(f"{line}\nnew p pair\nput p left x\nrow q x\nset q x x\ngive x", "x")
            for index in (0, 2, 4):
                self.check("never", value, at("a", 0), at("a", index))
        value = module("kind box key\nfunction main\nblock a\nnew p box\nput p key p\ngive p\nfunction other\nblock a\nnew p box\n"
                       "put p key p\ngive p")
        self.check("never", value, at("a", 1, "other"), at("a", 1, "other"))
        self.check("surely", value, at("a", 1), at("a", 1))

    def test_errors_for_place_and_then_for_other(self):
        value = body("new p pair\nput p left x\nget r p left\ngive r", "x")
        good, wrong, nowhere = at("a", 1), at("a", 0), at("a", 4)
        for args, error, field in (
            ((nowhere, wrong), UnknownPlace, "value"), ((wrong, nowhere), WrongPlace, "place"), ((nowhere, good), UnknownPlace, "value"),
            ((good, nowhere), UnknownPlace, "value"), ((wrong, good), WrongPlace, "place"), ((good, wrong), WrongPlace, "place"),
            ((at("a", 3), good), WrongPlace, "place"), ((good, at("a", 3)), WrongPlace, "place"),
        ):
            with self.assertRaises(error) as caught:
                meets(value, *args)
            self.assertIs(getattr(caught.exception, field), args[0] if args[0] != good else args[1])


# The calls of set (by name), of set and get (by value) write the field left; get alone does not.
CALLING = module("""
kind pair left right
function get y
block a
get r y left
give r
function main x
block a
new p pair
new other pair
call i set p
call j get p
fun f set
ask k f p
fun g get
ask l g p
call m set other
put p left x
get q p left
put p right x
get r p right
get s other left
call t through p
get u p left
give u
function set y
block a
put y left y
give y
function through y
block a
call z set y
give z
""")


class Writers(unittest.TestCase):
    def test_stores_and_calls_that_write_a_cell(self):
        one = [at("a", 2), at("a", 5), at("a", 8), at("a", 9), at("a", 14)]
        for index in (9, 10, 15):
            self.assertEqual(writers(CALLING, at("a", index)), one)
        # What set is passed is told for all its calls together.
        self.assertEqual(writers(CALLING, at("a", 13)), [at("a", 2), at("a", 5), at("a", 8), at("a", 14)])

    def test_stores_of_another_field_do_not(self):
        for index in (11, 12):
            self.assertEqual(writers(CALLING, at("a", index)), [at("a", 11)])

    def test_a_store_is_its_own_writer_if_it_has_cells(self):
        value = body("new p pair\nput p left x\nput x left x\nset x x x\ngive x", "x")
        self.assertEqual(writers(value, at("a", 1)), [at("a", 1)])
        self.assertEqual(writers(value, at("a", 2)), [])
        self.assertEqual(writers(value, at("a", 3)), [])

    def test_stores_that_never_and_perhaps_meet(self):
        text = "row p x\nnum i 1\nnum j 2\nset p i x\nset p j x\nset p x x\nat r p i\ngive r"
        self.assertEqual(writers(body(text, "x"), at("a", 6)), [at("a", 3), at("a", 5)])

    def test_stores_of_other_functions_and_of_blocks_that_are_not_reached_are_none(self):
        self.assertEqual(writers(CALLING, at("a", 0, "set")), [at("a", 0, "set")])
        self.assertEqual(writers(CALLING, at("a", 0, "get")), [])
        value = body("new p pair\nget r p left\ngive r\nblock z\nput p left x\ngive x", "x")
        self.assertEqual(writers(value, at("a", 1)), [])

    def test_a_function_that_calls_itself(self):
        value = module("kind box key\nfunction main x\nblock a\nnew p box\ncall r ring p\ngive r\nfunction ring y\nblock a\nget z y key\n"
                       "put y key y\ncall w ring y\nget v y key\ngive v")
        self.assertEqual(writers(value, at("a", 0, "ring")), [at("a", 1, "ring"), at("a", 2, "ring")])

    def test_a_function_that_is_not_live(self):
        value = module("kind box key\nfunction main x\nblock a\ngive x\nfunction other\nblock a\nnew p box\nput p key p\ncall r other\n"
                       "get q p key\ngive q")
        self.assertEqual(writers(value, at("a", 3, "other")), [])
        self.assertEqual(clobber(value, at("a", 3, "other")), START)
        self.assertEqual(seen(value, at("a", 3, "other")), [START])

    def test_ascending(self):
        value = body("new p pair\ngo c\nblock c\nput p left x\ngo b\nblock b\nput p left x\nput p left p\nget q p left\ngive q", "x")
        self.assertEqual(writers(value, at("b", 2)), [at("b", 0), at("b", 1), at("c", 0)])


class Clobber(unittest.TestCase):
    def check(self, value, place, version, sees):
        self.assertEqual(clobber(value, place), version)
        self.assertEqual(seen(value, place), sees)

    def in_blocks(self, text, place, version, sees, parameters="x"):
        self.check(body("new p pair\n" + text, parameters), place, version, sees)

    def test_the_start(self):
        self.in_blocks("get r p left\nput p left x\nput p right x\ngive r", at("a", 1), START, [START])
        self.in_blocks("put p left x\ngive x", at("a", 1), START, [START])

    def test_the_last_writer_in_the_block(self):
        text = "put p left x\nput p left p\nget r p left\nput p left x\nput p right x\nget s p left\nget t p right\ngive r"
        self.in_blocks(text, at("a", 3), writer("a", 2), [writer("a", 2)])
        self.in_blocks(text, at("a", 2), writer("a", 1), [writer("a", 1)])
        self.in_blocks(text, at("a", 6), writer("a", 4), [writer("a", 4)])
        self.in_blocks(text, at("a", 7), writer("a", 5), [writer("a", 5)])

    def test_calls(self):
        self.check(CALLING, at("a", 9), writer("a", 8), [writer("a", 8)])
        self.check(CALLING, at("a", 15), writer("a", 14), [writer("a", 14)])
        self.check(CALLING, at("a", 13), writer("a", 8), [writer("a", 8)])

    def test_of_immediate_dominators(self):
        text = "put p left x\ngo b\nblock b\ngo c\nblock c\nget r p left\nput p left x\nif x d / e\nblock d\ngive x\nblock e\n" \
               "get s p left\ngive s"
        self.in_blocks(text, at("c", 0), writer("a", 1), [writer("a", 1)])
        self.in_blocks(text, at("e", 0), writer("c", 1), [writer("c", 1)])

    def test_a_join_of_two_writers(self):
        text = "if x b / c\nblock b\nput p left x\ngo d\nblock c\nput p left p\ngo d\nblock d\nget r p left\ngo e\nblock e\nget s p left\n" \
               "give s"
        for place in (at("d", 0), at("e", 0)):
            self.in_blocks(text, place, ("join", "d"), [writer("b", 0), writer("c", 0)])

    def test_a_join_of_a_writer_and_the_start(self):
        text = "if x b / d\nblock b\nput p left x\ngo d\nblock d\nget r p left\nput p left x\nget s p left\ngive r"
        self.in_blocks(text, at("d", 0), ("join", "d"), [START, writer("b", 0)])
        self.in_blocks(text, at("d", 2), writer("d", 1), [writer("d", 1)])

    def test_no_join_where_nothing_is_written_on_the_way(self):
        text = "put p left x\nif x b / c\nblock b\nput p right x\ngo d\nblock c\ngo d\nblock d\nget r p left\nget s p right\ngive r"
        self.in_blocks(text, at("d", 0), writer("a", 1), [writer("a", 1)])
        self.in_blocks(text, at("d", 1), ("join", "d"), [START, writer("b", 0)])

    def test_a_join_though_one_writer_comes_behind_both_ways(self):
        text = "if x b / c\nblock b\nput p left x\ngo d\nblock c\ngo d\nblock d\nput p left x\ngo e\nblock e\nget r p left\ngive r"
        self.in_blocks(text, at("e", 0), writer("d", 0), [writer("d", 0)])

    def test_joins_of_joins(self):
        text = "if x b / e\nblock b\nif x c / d\nblock c\nput p left x\ngo d\nblock d\ngo e\nblock e\nget r p left\ngive r"
        self.in_blocks(text, at("e", 0), ("join", "e"), [START, writer("c", 0)])
        text = text.replace("block d\ngo e", "block d\nget q p left\ngo e")
        self.in_blocks(text, at("d", 0), ("join", "d"), [START, writer("c", 0)])

    def test_a_loop_with_a_writer_behind_the_load(self):
        text = "go b\nblock b\nget r p left\nput p left x\nif x b / c\nblock c\nget s p left\ngive s"
        self.in_blocks(text, at("b", 0), ("join", "b"), [START, writer("b", 1)])
        self.in_blocks(text, at("c", 0), writer("b", 1), [writer("b", 1)])

    def test_a_store_that_sees_itself_around_a_loop(self):
        text = "go b\nblock b\nput p left x\nif x b / c\nblock c\nput p left x\ngive x"
        self.in_blocks(text, at("b", 0), ("join", "b"), [START, writer("b", 0)])
        self.in_blocks(text, at("c", 0), writer("b", 0), [writer("b", 0)])
        text = "go b\nblock b\nput p left x\nput p left p\nif x b / c\nblock c\ngive x"
        self.in_blocks(text, at("b", 0), ("join", "b"), [START, writer("b", 1)])
        self.in_blocks(text, at("b", 1), writer("b", 0), [writer("b", 0)])

    def test_a_loop_with_a_writer_before_it_alone(self):
        text = "put p left x\ngo b\nblock b\nget r p left\nif x b / c\nblock c\nget s p left\ngive s"
        for place in (at("b", 0), at("c", 0)):
            self.in_blocks(text, place, writer("a", 1), [writer("a", 1)])

    def test_a_writer_in_a_block_of_a_loop(self):
        text = "go b\nblock b\nif x c / d\nblock c\nif x e / f\nblock e\nput p left x\ngo f\nblock f\nget r p left\ngo b\nblock d\n" \
               "get s p left\ngive s"
        self.in_blocks(text, at("f", 0), ("join", "f"), [START, writer("e", 0)])
        self.in_blocks(text, at("d", 0), ("join", "b"), [START, writer("e", 0)])

    def test_a_block_that_both_arms_of_an_if_name(self):
        text = "if x b / b\nblock b\nget r p left\nput p left x\nif x c / c\nblock c\nget s p left\ngive s"
        self.in_blocks(text, at("b", 0), START, [START])
        self.in_blocks(text, at("c", 0), writer("b", 1), [writer("b", 1)])

    def test_edges_of_blocks_that_are_not_reached(self):
        text = "put p left x\ngo b\nblock b\nget r p left\ngive r\nblock z\nput p left x\ngo b"
        self.in_blocks(text, at("b", 0), writer("a", 1), [writer("a", 1)])

    def test_several_seen_ascending(self):
        blocks = "".join([f"block {name}\nput p left x\ngo z\n" for name in "gfed"])
        text = f"if x b / c\nblock b\nif x g / f\nblock c\nif x e / d\n{blocks}block z\nget r p left\nput p left r\ngive r"
        self.in_blocks(text, at("z", 0), ("join", "z"), [writer(name, 0) for name in "defg"])
        text = text.replace("if x e / d", "if x e / z", 1)
        self.in_blocks(text, at("z", 0), ("join", "z"), [START, *[writer(name, 0) for name in "efg"]])

    def test_access_without_cells(self):
        value = body("new p pair\nput p left x\nget r x left\ngive r", "x")
        self.check(value, at("a", 2), START, [START])


class SecondAnswer(unittest.TestCase):
    def test_drawn_modules(self):
        source = random.Random(31)
        met, versions = [], []
        for _ in range(110):
            value = drawn.draw_module(source, 3, source.choice((2, 6)), 7)
            told = Seen(value)
            accesses = [place for place, thing in told.world.places if thing[0] in ("get", "put", "at", "set")]
            for place in accesses:
                self.assertEqual(writers(value, place), sorted(told.writers(place)))
                self.assertEqual(clobber(value, place), told.clobber(place))
                self.assertEqual(seen(value, place), told.seen(place))
                versions.append(clobber(value, place)[0])
                if len(seen(value, place)) == 1:
                    self.assertEqual(seen(value, place), [clobber(value, place)])
                for other in accesses[:8]:
                    self.assertEqual(meets(value, place, other), told.meets(place, other))
                    met.append(meets(value, place, other))
        self.assertGreater(min([met.count(word) for word in ("never", "surely", "perhaps")]), 60)
        self.assertGreater(min([versions.count(word) for word in ("start", "writer", "join")]), 30)

    def test_what_runs_touch(self):
        source = random.Random(32)
        surely = both = 0
        for _ in range(250):
            value = drawn.draw_module(source, 3, 3, 9)
            inputs = [source.randint(-1, 3) for _ in naive.World(value).functions["main"][1]]
            places = {}
            for place, cell, _ in touched(value, inputs, 200):
                places.setdefault(cell, set()).add(place)
            for together in places.values():
                for place in together:
                    for other in together:
                        self.assertNotEqual(meets(value, place, other), "never")
                        surely += place != other and meets(value, place, other) == "surely"
                        both += place != other
        self.assertGreater(surely, 20)
        self.assertGreater(both, surely)

    def test_nothing_is_written_behind_the_clobber_in_runs(self):
        source = random.Random(33)
        checked = {"start": 0, "writer": 0, "join": 0}
        for _ in range(400):
            value = drawn.draw_module(source, 3, source.choice((2, 5)), 9)
            tracer = Tracer(value, 250)
            tracer.run([source.randint(-1, 3) for _ in tracer.world.functions["main"][1]])
            for place, cell, events in tracer.accesses:
                version = clobber(value, place)
                word = {"writer": "done", "join": "block"}.get(version[0])
                since = 0
                if word is not None:
                    # The version began in this call, or else this comes to an error.
                    since = len(events) - events[::-1].index((word, version[1]))
                self.assertNotIn(("write", cell), events[since:])
                checked[version[0]] += ("write", cell) in events
        self.assertGreater(checked["writer"], 30)
        self.assertGreater(checked["join"], 30)

    def test_the_sample(self):
        self.assertEqual(run(samples.RICH, [1]).end[0], "fault")
        self.assertEqual(clobber(samples.RICH, ("main", "done", 0)), START)
        self.assertEqual(clobber(samples.RICH, ("main", "start", 11)), START)


if __name__ == "__main__":
    unittest.main()
