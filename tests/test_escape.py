"""Promises 2, 27, 28: sites that leave and that stay, paths, and lists that show that a site stays."""

import random
import unittest

import drawn
import naive
import samples
from clobberwalk.escape import is_path, leaves, leaving, shows_staying, staying, why_leaves
from clobberwalk.facts import facts
from clobberwalk.machine import run
from naive_seen import Seen, paths_around
from tracer import Tracer
from written import module

# keep gives nothing, but puts into what it is passed; make gives a pair with a row in it; idle is not live.
VALUE = module("""
kind box key
kind pair left right
function idle p
block z
new y box
put y key p
give y
function keep p r
block b
new in box
new deep pair
new own box
put p left in
put in key deep
num i 0
row el i
set r i el
put own key p
give i
function main x
block a
new p pair
row r x
new q box
put q key p
call s keep p r
call t make x
get u t left
new gone pair
give x
block dead
new w box
give w
function make n
block m
new top pair
row rest n
put top left rest
new extra box
num i 0
set rest i extra
new alone box
put alone key top
put alone key alone
give top
""")

IN, DEEP, OWN, ROW = ("keep", "b", 0), ("keep", "b", 1), ("keep", "b", 2), ("keep", "b", 6)
TOP, REST, EXTRA, ALONE = ("make", "m", 0), ("make", "m", 1), ("make", "m", 3), ("make", "m", 6)


def held(f, local):
    return ("register", f, local)


class Leaves(unittest.TestCase):
    def check(self, f, leaving_places, staying_places):
        self.assertEqual(leaving(VALUE, f), leaving_places)
        self.assertEqual(staying(VALUE, f), staying_places)
        for place in leaving_places + staying_places:
            self.assertIs(leaves(VALUE, place), place in leaving_places)

    def test_by_a_field_of_a_parameter_and_an_element_of_a_row(self):
        self.check("keep", [IN, DEEP, ROW], [OWN])

    def test_by_what_the_function_gives(self):
        self.check("make", [TOP, REST, EXTRA], [ALONE])

    def test_nothing_leaves_by_calls_alone(self):
        self.check("main", [], [("main", "a", 0), ("main", "a", 1), ("main", "a", 2), ("main", "a", 7)])

    def test_through_calls(self):
        value = module("kind box key\nfunction main\nblock a\nnew p box\ncall q same p\ngive q\nfunction same x\nblock a\n"
                       "give x")
        self.assertIs(leaves(value, ("main", "a", 0)), True)
        value = module("kind box key\nfunction inner x y\nblock a\nput x key y\nnone o\ngive o\nfunction main\nblock a\n"
                       "new p box\ncall q outer p\ngive q\nfunction outer x\nblock a\nnew y box\ncall z inner x y\ngive z")
        self.assertEqual(leaving(value, "outer"), [("outer", "a", 0)])
        self.assertEqual(staying(value, "main"), [("main", "a", 0)])

    def test_sites_of_functions_that_are_not_live_stay(self):
        self.check("idle", [], [("idle", "z", 0)])

    def test_sites_of_blocks_that_are_not_reached_are_in_no_list(self):
        self.assertNotIn(("main", "dead", 0), leaving(VALUE, "main") + staying(VALUE, "main"))

    def test_ascending(self):
        lines = [f"new {name} box\nput {name} key p\nput p key {name}\ngo {block}\nblock {block}"
                 for name, block in zip("qrs", "zab")]
        text = "\n".join(["kind box key\nfunction main\nblock c\nnew p box", *lines, "new t box\ngive p"])
        self.assertEqual(leaving(module(text), "main"), [("main", "a", 0), ("main", "c", 0), ("main", "c", 1), ("main", "z", 0)])
        text = text.replace("put p key", "put t key").replace("new p box", "new p box\nnew t box").replace("give p", "give o")
        text = text.replace("\nnew t box\ngive", "\nnone o\ngive")
        self.assertEqual(staying(module(text), "main"), [
            ("main", "a", 0), ("main", "c", 0), ("main", "c", 1), ("main", "c", 2), ("main", "z", 0),
        ])

    def test_a_field_that_is_overwritten_still_lets_it_leave(self):
        value = module("kind box key\nfunction main\nblock a\nnew p box\nnew q box\nnone o\nput p key q\nput p key o\ngive p")
        self.assertEqual(leaving(value, "main"), [("main", "a", 0), ("main", "a", 1)])


class Paths(unittest.TestCase):
    GOOD = (
        (TOP, [("given", "make")]),
        (REST, [("given", "make"), ("field", TOP, "left")]),
        (EXTRA, [("given", "make"), ("field", TOP, "left"), ("element", REST)]),
        (IN, [held("keep", "p"), ("field", ("main", "a", 0), "left")]),
        (DEEP, [held("keep", "p"), ("field", ("main", "a", 0), "left"), ("field", IN, "key")]),
        (ROW, [held("keep", "r"), ("element", ("main", "a", 1))]),
    )

    def test_the_only_paths(self):
        for place, path in self.GOOD:
            self.assertEqual(why_leaves(VALUE, place), path)
            self.assertIs(is_path(VALUE, place, path), True)
            self.assertIs(is_path(VALUE, place, tuple(path)), True)

    def test_none_for_a_site_that_stays(self):
        for place in (OWN, ALONE, ("main", "a", 0), ("idle", "z", 0)):
            self.assertIsNone(why_leaves(VALUE, place))

    def test_a_path_that_goes_around(self):
        value = module("kind box key\nfunction main\nblock a\nnew p box\nput p key p\ngive p")
        place = ("main", "a", 0)
        for many in range(4):
            self.assertIs(is_path(value, place, [("given", "main"), *[("field", place, "key")] * many]), True)

    def test_a_part_left_out_doubled_exchanged(self):
        for place, path in self.GOOD:
            for at in range(len(path)):
                self.assertIs(is_path(VALUE, place, path[:at] + path[at + 1:]), False)
                self.assertIs(is_path(VALUE, place, path[:at] + [path[at]] + path[at:]), False)
                for other, line in self.GOOD:
                    for holder in line + [("given", "main"), held("make", "top"), held("keep", "in"), ("element", ROW)]:
                        changed = path[:at] + [holder] + path[at + 1:]
                        self.assertIs(is_path(VALUE, place, changed), changed == path)
            self.assertIs(is_path(VALUE, place, path[::-1]), len(path) == 1)
            self.assertIs(is_path(VALUE, place, path + [("given", place[0])]), False)

    def test_the_path_of_another_site_or_function(self):
        for place, path in self.GOOD:
            for other, line in self.GOOD:
                self.assertIs(is_path(VALUE, place, line), line == path)

    def test_it_has_to_begin_at_its_own_function(self):
        text = "kind box key\nfunction main\nblock a\nnew p box\ncall q one p\ngive q\nfunction one x\nblock a\ngive x"
        value, place = module(text), ("main", "a", 0)
        self.assertIs(is_path(value, place, [("given", "main")]), True)
        for holder in (("given", "one"), held("one", "x"), held("main", "q"), held("main", "p")):
            self.assertIs(is_path(value, place, [holder]), False)

    def test_any_value(self):
        good = self.GOOD[1][1]
        strays = [*samples.STRAYS, run(samples.RICH, [1])]
        for value in [*strays, [], (), dict.fromkeys(good), [list(part) for part in good], "given", ("given", "make")]:
            self.assertIs(is_path(VALUE, REST, value), False)
        for part in [*strays, ["given", "make"], ("given",), ("given", "make", "left"), ("given", ["make"]), ("nothing", "make"),
                     ("field", TOP, "left"), ("given", "nowhere")]:
            self.assertIs(is_path(VALUE, REST, [part, good[1]]), False)
        for part in [*strays, ("field", ("make", "m", False), "left"), ("field", TOP, ["left"]), ("field", TOP),
                     ("field", list(TOP), "left"), ("element", TOP), ("field", TOP, "key"), ("field", ("main", "dead", 0), "key")]:
            self.assertIs(is_path(VALUE, REST, [good[0], part]), False)

    def test_a_bool_in_the_place_of_an_index(self):
        self.assertIs(is_path(VALUE, EXTRA, [("given", "make"), ("field", TOP, "left"), ("element", ("make", "m", True))]), False)


class ShowsStaying(unittest.TestCase):
    def check(self, expected, place, value):
        self.assertIs(shows_staying(VALUE, place, value), expected)

    def test_what_is_needed_and_no_more(self):
        self.check(True, ALONE, [TOP, REST, EXTRA])
        self.check(True, ALONE, (EXTRA, REST, TOP))
        self.check(True, OWN, [("main", "a", 0), ("main", "a", 1), IN, DEEP, ROW])
        self.check(True, ("main", "a", 0), [])
        self.check(True, ("idle", "z", 0), ())

    def test_each_part_left_out(self):
        for place, needed in ((ALONE, [TOP, REST, EXTRA]), (OWN, [("main", "a", 0), ("main", "a", 1), IN, DEEP, ROW])):
            for at in range(len(needed)):
                self.check(False, place, needed[:at] + needed[at + 1:])
                self.check(True, place, needed + [needed[at]])
                self.check(False, place, needed[:at] + [place] + needed[at + 1:])

    def test_sites_that_are_not_needed(self):
        self.check(True, ALONE, [TOP, REST, EXTRA, ("main", "a", 7), ("idle", "z", 0)])
        # What their fields hold is needed then, too.
        self.check(False, ("main", "a", 7), [("main", "a", 2)])
        self.check(True, ("main", "a", 7), [("main", "a", 2), ("main", "a", 0), IN, DEEP])
        self.check(False, ("main", "a", 0), [("main", "a", 2), IN, DEEP])

    def test_not_this_one(self):
        self.check(False, ALONE, [TOP, REST, EXTRA, ALONE])
        self.check(False, ("main", "a", 7), [("main", "a", 7)])

    def test_no_list_for_a_site_that_leaves(self):
        for place in (TOP, REST, EXTRA):
            for listed in ([], [TOP, REST, EXTRA], [one for one in (TOP, REST, EXTRA) if one != place]):
                self.check(False, place, listed)

    def test_a_value_that_is_no_site(self):
        for part in [*samples.STRAYS, ("site", TOP), list(TOP), ("make", "m", 2), ("make", "m", 9), ("main", "dead", 0), ("make", "m", True),
                     ("make", "m"), ("make", "m", False), run(samples.RICH, [1]), ("given", "make")]:
            self.check(False, ("main", "a", 0), [part])
            self.check(False, ALONE, [TOP, REST, EXTRA, part])

    def test_any_value(self):
        for value in [*[one for one in samples.STRAYS if one not in ((), [])], {TOP: 1, REST: 1, EXTRA: 1}, TOP, run(samples.RICH, [1])]:
            self.check(False, ALONE, value)


class SecondAnswer(unittest.TestCase):
    def test_drawn_modules(self):
        source = random.Random(27)
        count = 0
        for _ in range(120):
            value = drawn.draw_module(source, 4, 3, 9, "box")
            told = Seen(value)
            self.assertTrue(set(facts(value)) == told.facts)
            for f in told.world.functions:
                sites = [place for place, thing in told.world.places if place[0] == f and thing[0] in ("new", "row")]
                self.assertEqual(leaving(value, f), sorted(told.leaving(f)))
                self.assertEqual(staying(value, f), sorted(set(sites) - told.leaving(f)))
                for place in sites:
                    count += self.check_site(source, value, told, place)
        self.assertGreater(count, 60)

    def check_site(self, source, value, told, place):
        path = why_leaves(value, place)
        all_sites = [one for one, thing in told.world.places if thing[0] in ("new", "row")]
        f = place[0]
        first = told.held("given", f).union(*[told.of(f, local) for local in told.world.functions[f][1]])
        outside = [one[1] for one in told.reach(first) if one[0] == "site"]
        for listed in (outside, outside[1:], source.sample(all_sites, source.randint(0, len(all_sites)))):
            self.assertIs(shows_staying(value, place, listed), told.stays_by(place, listed))
        self.assertIs(shows_staying(value, place, outside), path is None)
        self.assertIs(leaves(value, place), path is not None)
        if path is None:
            return 0
        self.assertIs(is_path(value, place, path), True)
        for line in paths_around(told, place):
            self.assertIs(is_path(value, place, line), True)
        self.assertTrue(len(path) > 3 or path in paths_around(told, place))
        return 1

    def test_runs_leave_nothing_behind_that_stays(self):
        source = random.Random(28)
        stayed = left = 0
        for _ in range(250):
            value = drawn.draw_module(source, 4, 3, 9, "box")
            world = naive.World(value)
            leavers = {place for f in world.functions for place in leaving(value, f)}
            tracer = Tracer(value, 300)
            tracer.run([source.randint(-1, 3) for _ in world.functions["main"][1]])
            for call, _, outside in tracer.finished:
                for made in call.made:
                    stayed += made.place not in leavers
                    left += made in outside
                    self.assertTrue(made.place in leavers or made not in outside)
        self.assertGreater(min(stayed, left), 60)


if __name__ == "__main__":
    unittest.main()
