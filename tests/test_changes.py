"""Promise 39: facts that went and came, functions that died and were born."""

import random
import unittest

import drawn
import naive_shop
import samples
from clobberwalk.errors import InvalidModule
from clobberwalk.facts import facts
from clobberwalk.modules import module_error
from clobberwalk.steps import steps
from clobberwalk.workshop import Workshop
from test_edits import draw_edits
from written import body, module

NONE, NUMBER = ("none",), ("number",)
NOTHING = ([], [], [], [])


def site(f, block, index):
    return ("site", (f, block, index))


def local(name, f="main"):
    return ("register", f, name)


class Changes(unittest.TestCase):
    VALUE = body("new p box\nput p key x\nrow q x\nset q x p\nget r p key\ngive r", "x", "kind box key left")
    P, Q = ("main", "a", 0), ("main", "a", 2)

    def test_before_any_change(self):
        self.assertEqual(Workshop(self.VALUE).changes(), NOTHING)

    def test_behind_a_change_of_no_edits(self):
        shop = Workshop(self.VALUE)
        shop.do(("delete", ("main", "a", 1)))
        shop.do()
        self.assertEqual(shop.changes(), NOTHING)
        shop.undo()
        self.assertEqual(shop.changes(), NOTHING)
        shop.undo()
        self.assertNotEqual(shop.changes(), NOTHING)

    def test_a_store_that_goes_and_comes_back(self):
        shop = Workshop(self.VALUE)
        shop.do(("delete", ("main", "a", 1)))
        held = [(("field", self.P, "key"), NUMBER), (("given", "main"), NUMBER), (local("r"), NUMBER)]
        self.assertEqual(shop.changes(), (held, [], [], []))
        shop.undo()
        self.assertEqual(shop.changes(), ([], held, [], []))
        shop.redo()
        self.assertEqual(shop.changes(), (held, [], [], []))

    def test_ascending_by_repr(self):
        shop = Workshop(self.VALUE)
        shop.do(("delete", ("main", "a", 1)))
        for part in shop.changes()[:2]:
            self.assertEqual(part, sorted(part, key=repr))
        shop.do(("replace", ("main", "a", 0), ("new", "p", "box")))
        gone, come, _, _ = shop.changes()
        self.assertEqual(gone, sorted(gone, key=repr))
        self.assertEqual(come, sorted(come, key=repr))
        self.assertEqual(len(gone), 4)

    def test_edits_in_front_move_a_site(self):
        shop = Workshop(self.VALUE)
        shop.do(("insert", ("main", "a", 0), ("num", "z", 1)))
        self.assertEqual(shop.changes(), ([], [(local("z"), NUMBER)], [], []))
        # The sites moved by one place, and back again.
        self.assertIn((local("p"), site("main", "a", 1)), facts(shop.current))
        shop.do(("delete", ("main", "a", 0)))
        self.assertEqual(shop.changes(), ([(local("z"), NUMBER)], [], [], []))
        self.assertEqual(shop.current, self.VALUE)

    def test_a_fact_is_listed_as_it_was_named_before(self):
        shop = Workshop(self.VALUE)
        shop.do(("insert", ("main", "a", 0), ("num", "z", 1)), ("delete", ("main", "a", 4)))
        # Behind the edits the row stands at the index 3.
        self.assertEqual(shop.changes(), ([(("element", self.Q), ("site", self.P))], [(local("z"), NUMBER)], [], []))
        shop.undo()
        self.assertEqual(shop.changes(), ([(local("z"), NUMBER)], [(("element", self.Q), ("site", self.P))], [], []))

    def test_what_is_replaced_goes_even_if_it_is_equal(self):
        facts_of_p = [
            (("element", self.Q), ("site", self.P)), (("field", self.P, "key"), NONE), (("field", self.P, "key"), NUMBER),
            (("field", self.P, "left"), NONE), (local("p"), ("site", self.P)),
        ]
        whole = self.VALUE[1][0]
        for edit in (("replace", self.P, ("new", "p", "box")),):
            shop = Workshop(self.VALUE)
            shop.do(edit)
            self.assertEqual(shop.current, self.VALUE)
            self.assertEqual(shop.changes(), (facts_of_p, facts_of_p, [], []))
            shop.undo()
            self.assertEqual(shop.changes(), (facts_of_p, facts_of_p, [], []))
        of_sites = [fact for fact in facts(self.VALUE) if "'a', " in repr(fact)]
        for edits in ([("block", "main", whole[2][0])], [("function", whole)], [("remove", "main"), ("function", whole)],
                      [("drop", "main", "a"), ("block", "main", whole[2][0])]):
            shop = Workshop(self.VALUE)
            shop.do(*edits)
            self.assertEqual(shop.current, self.VALUE)
            self.assertEqual(shop.changes(), (of_sites, of_sites, [], []))

    def test_what_is_deleted_and_put_in_again_is_new(self):
        shop = Workshop(self.VALUE)
        shop.do(("delete", self.Q), ("insert", self.Q, ("row", "q", "x")))
        self.assertEqual(shop.current, self.VALUE)
        gone, come, _, _ = shop.changes()
        self.assertEqual(gone, come)
        self.assertEqual(len(gone), 3)

    def test_a_replaced_kind_lets_sites_stay(self):
        shop = Workshop(self.VALUE)
        shop.do(("kind", ("box", ("key", "more"))))
        self.assertEqual(shop.changes(), ([(("field", self.P, "left"), NONE)], [(("field", self.P, "more"), NONE)], [], []))
        shop.do(("kind", ("box", ("key", "more"))))
        self.assertEqual(shop.changes(), NOTHING)

    def test_another_register_of_a_site_that_is_replaced(self):
        shop = Workshop(body("new p box\ngive x", "x", "kind box key"))
        shop.do(("replace", self.P, ("new", "z", "box")))
        gone, come, _, _ = shop.changes()
        self.assertEqual(gone, [(("field", self.P, "key"), NONE), (local("p"), ("site", self.P))])
        self.assertEqual(come, [(("field", self.P, "key"), NONE), (local("z"), ("site", self.P))])

    def test_a_row_in_which_a_step_exchanges_a_register(self):
        value = body("num n 3\nnew p box\nput p key n\nget r p key\nrow q r\nat s q n\nput p key q\ngive s", "x", "kind box key")
        shop = Workshop(value)
        self.assertIn(("load", ("main", "a", 3)), steps(value))
        shop.do(("step", ("load", ("main", "a", 3))))
        self.assertIn(("row", "q", "n"), shop.current[1][0][2][0][2])
        # The load is gone with what it held, the row is still there.
        held = [(local("r"), thing) for thing in (NONE, NUMBER, site("main", "a", 4))]
        self.assertEqual(shop.changes(), (held, [], [], []))
        shop.undo()
        self.assertEqual(shop.changes(), ([], held, [], []))

    def test_a_step_that_takes_a_site_out(self):
        value = body("new p box\nnew q box\nput q key q\ngive q", "x", "kind box key")
        shop = Workshop(value)
        shop.do(("step", ("unused", ("main", "a", 0))))
        self.assertEqual(shop.changes(), ([(("field", self.P, "key"), NONE), (local("p"), ("site", self.P))], [], [], []))

    def test_a_block_that_is_no_longer_reached(self):
        value = body("if x b / c\nblock b\nnew p box\ngo d p\nblock c\ngo d x\nblock d o\ngive o", "x", "kind box key")
        shop = Workshop(value)
        shop.do(("replace", ("main", "a", 0), ("go", "c", ())))
        one = site("main", "b", 0)
        gone = [(("field", one[1], "key"), NONE), (("given", "main"), one), (local("o"), one), (local("p"), one)]
        self.assertEqual(shop.changes(), (gone, [], [], []))
        shop.do(("replace", ("main", "a", 0), ("go", "b", ())))
        self.assertEqual(shop.changes()[1], gone)
        # From the first module to this one the site was there all the time.
        shop.undo(2)
        self.assertEqual(shop.changes(), ([], [(("given", "main"), NUMBER), (local("o"), NUMBER)], [], []))
        self.assertEqual(shop.current, value)

    def test_functions_that_die_and_are_born(self):
        value = module("function b\nblock a\nnone o\ngive o\nfunction c\nblock a\ncall r b\ngive r\nfunction main x\nblock a\ncall r c\n"
                       "give r\nfunction z\nblock a\nnone o\ngive o")
        shop = Workshop(value)
        shop.do(("replace", ("main", "a", 0), ("call", "r", "z", ())))
        gone, come, dead, born = shop.changes()
        self.assertEqual((dead, born), (["b", "c"], ["z"]))
        self.assertEqual(gone, [(("given", "b"), NONE), (("given", "c"), NONE), (local("o", "b"), NONE), (local("r", "c"), NONE)])
        self.assertEqual(come, [(("given", "z"), NONE), (local("o", "z"), NONE)])
        shop.undo()
        self.assertEqual(shop.changes()[2:], (["z"], ["b", "c"]))
        shop.do(("replace", ("main", "a", 0), ("none", "r")), ("remove", "c"))
        self.assertEqual(shop.changes()[2:], (["b", "c"], []))

    def test_several_changes_together(self):
        shop = Workshop(self.VALUE)
        shop.do(("insert", ("main", "a", 0), ("num", "z", 1)))
        shop.do(("delete", ("main", "a", 2)))
        shop.do(("delete", ("main", "a", 0)))
        shop.undo(3)
        held = [(("field", self.P, "key"), NUMBER), (("given", "main"), NUMBER), (local("r"), NUMBER)]
        self.assertEqual(shop.changes(), ([], held, [], []))
        shop.redo(3)
        self.assertEqual(shop.changes(), (held, [], [], []))
        shop.undo(2)
        self.assertEqual(shop.changes()[1], [(("field", ("main", "a", 1), "key"), NUMBER), (("given", "main"), NUMBER), (local("r"), NUMBER),
                                             (local("z"), NUMBER)])

    def test_replaced_by_equal_ones_in_one_of_several_changes(self):
        shop = Workshop(self.VALUE)
        shop.do(("replace", self.Q, ("row", "q", "x")))
        shop.do(("insert", ("main", "a", 0), ("num", "z", 1)))
        shop.undo(2)
        gone, come, _, _ = shop.changes()
        one = ("main", "a", 3)
        self.assertEqual(gone, [(("element", one), NONE), (("element", one), site("main", "a", 1)), (local("q"), ("site", one)), (local("z"), NUMBER)])
        self.assertEqual(come, [(("element", self.Q), NONE), (("element", self.Q), ("site", self.P)), (local("q"), ("site", self.Q))])

    def test_a_new_change_behind_an_undo(self):
        # The second change gives birth at the same place as the first one, which was undone.
        shop = Workshop(self.VALUE)
        shop.do(("replace", self.P, ("new", "p", "box")))
        shop.undo()
        shop.do(("replace", self.P, ("new", "p", "box")))
        self.assertEqual(len(shop.changes()[0]), 5)
        shop.do()
        self.assertEqual(shop.changes(), NOTHING)

    def test_the_lists_are_new(self):
        shop = Workshop(self.VALUE)
        found = shop.changes()
        for part in found:
            part.append("more")
        self.assertEqual(shop.changes(), NOTHING)
        shop.do(("delete", ("main", "a", 1)))
        first = shop.changes()
        self.assertEqual([type(part) for part in (first, *first)], [tuple, list, list, list, list])
        shop.changes()[0].clear()
        self.assertEqual(shop.changes(), first)


class SecondAnswer(unittest.TestCase):
    def test_drawn_histories(self):
        source = random.Random(39)
        lengths = [0, 0, 0, 0]
        for _ in range(110):
            line = [naive_shop.Numbered(drawn.draw_module(source, 5, 3, 5, "box"))]
            shop, at = Workshop(line[0].module()), 0
            for _ in range(14):
                before = line[at]
                word = source.choice(("do", "do", "do", "undo", "redo"))
                if word == "undo" and at > 0:
                    many = source.randint(1, at)
                    at -= many
                    shop.undo(many)
                elif word == "redo" and at < len(line) - 1:
                    many = source.randint(1, len(line) - 1 - at)
                    at += many
                    shop.redo(many)
                else:
                    edits = draw_edits(source, shop.current)
                    other = before.copy()
                    for edit in edits:
                        other.edit(edit)
                    if module_error(other.module()) is not None:
                        with self.assertRaises(InvalidModule):
                            shop.do(*edits)
                        continue
                    shop.do(*edits)
                    line[at + 1:] = [other]
                    at += 1
                self.assertEqual(shop.current, line[at].module())
                expected = naive_shop.changes(before, line[at])
                self.assertEqual(shop.changes(), expected)
                lengths = [many + len(part) for many, part in zip(lengths, expected)]
        self.assertGreater(min(lengths[:2]), 300)
        self.assertGreater(min(lengths[2:]), 5)

    def test_the_sample(self):
        shop = Workshop(samples.RICH)
        shop.do(("delete", ("main", "start", 12)))
        other = naive_shop.Numbered(samples.RICH)
        changed = other.copy()
        changed.edit(("delete", ("main", "start", 12)))
        self.assertEqual(shop.changes(), naive_shop.changes(other, changed))


if __name__ == "__main__":
    unittest.main()
