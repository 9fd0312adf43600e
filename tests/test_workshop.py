"""Promises 36, 37, 38: what a workshop keeps, undo and redo, trials."""

import inspect
import unittest

import samples
from clobberwalk.errors import InvalidEdit, InvalidModule, InvalidNumber, ParseError, UnknownName
from clobberwalk.machine import run
from clobberwalk.modules import module_error
from clobberwalk.texts import show_module
from clobberwalk.workshop import CountingWorkshop, GuardedCountingWorkshop, GuardedWorkshop, Workshop

CLASSES = (Workshop, GuardedWorkshop, CountingWorkshop, GuardedCountingWorkshop)
RICH = samples.RICH


def show(name):
    """Make an edit that adds an instruction in the block that is not reached."""
    return ("insert", ("main", "dead", 0), ("show", name))


ONE, TWO, THREE, FOUR = [show(name) for name in ("one", "two", "three", "four")]
NO_NUMBERS = [*[value for value in samples.STRAYS if type(value) is not int], 0, -1, "1", [1], (1,), 10 ** 79]


def state(shop):
    return (shop.current, shop.history, shop.undone, shop.changes(), len(shop))


class Cases(unittest.TestCase):
    def each(self, check):
        for make in CLASSES:
            with self.subTest(make.__name__):
                check(make)

    def raises(self, error, field, value, function, *args, **more):
        with self.assertRaises(error) as caught:
            function(*args, **more)
        self.assertIs(getattr(caught.exception, field), value)


class Made(Cases):
    def test_a_new_one(self):
        def check(make):
            shop = make(RICH)
            self.assertEqual(state(shop), (RICH, [], 0, ([], [], [], []), 0))
            self.assertEqual(shop.depth, 0)
            self.assertEqual(make(module=RICH).current, RICH)
        self.each(check)

    def test_no_module(self):
        def check(make):
            for value in [*samples.STRAYS, run(RICH, [1]), Workshop(RICH)]:
                with self.assertRaises(InvalidModule) as caught:
                    make(value)
                self.assertEqual(caught.exception.reason, module_error(value))
        self.each(check)

    def test_from_text(self):
        def check(make):
            shop = make.from_text(show_module(RICH))
            self.assertIs(type(shop), make)
            self.assertEqual(state(shop), (RICH, [], 0, ([], [], [], []), 0))
            self.assertEqual(make.from_text(text=show_module(RICH)).current, RICH)
            self.assertEqual(getattr(shop, "inputs", ()), ())
            self.assertEqual(getattr(shop, "counts", {}), {})
            with self.assertRaises(ParseError) as caught:
                make.from_text("function main\nblock a\ngive")
            self.assertEqual((caught.exception.line, caught.exception.word), (2, 1))
            with self.assertRaises(ParseError):
                make.from_text(RICH)
            with self.assertRaises(InvalidModule) as caught:
                make.from_text("function main\nblock a\ngive x")
            self.assertEqual(caught.exception.reason, ("use", 0, 0, 0, "x"))
        self.each(check)

    def test_text(self):
        def check(make):
            shop = make(RICH)
            self.assertEqual(shop.text(), show_module(RICH))
            shop.do(ONE)
            self.assertEqual(shop.text(), show_module(shop.current))
            self.assertIn("show one", shop.text())
        self.each(check)

    def test_equal_modules_whatever_the_classes(self):
        shops = [make(RICH) for make in CLASSES]
        other = Workshop(samples.SMALL)
        for shop in shops:
            for same in shops:
                self.assertTrue(shop == same)
                self.assertFalse(shop != same)
            self.assertFalse(shop == other)
            self.assertTrue(other != shop)
            for value in [*samples.STRAYS, RICH, (RICH,), run(RICH, [1])]:
                self.assertFalse(shop == value)
                self.assertTrue(shop != value)
        shops[0].do(ONE)
        self.assertFalse(shops[0] == shops[1])
        shops[1].do(TWO)
        self.assertFalse(shops[0] == shops[1])
        shops[0].undo()
        self.assertTrue(shops[0] == shops[2])

    def test_each_class_defines_what_the_interface_lists(self):
        names = ["__init__", "from_text", "text", "current", "history", "undone", "depth", "__len__", "__eq__", "do", "undo", "redo",
                 "module_after", "modules", "attempt", "explore", "changes", "ask"]
        for make in CLASSES:
            for name in names:
                self.assertIn(name, vars(make))
            for name in ("current", "history", "undone", "depth"):
                self.assertIsInstance(vars(make)[name], property)
            self.assertIs("inputs" in vars(make), make in (GuardedWorkshop, GuardedCountingWorkshop))
            self.assertIs("counts" in vars(make), make in (CountingWorkshop, GuardedCountingWorkshop))
            self.assertEqual(make.__module__, "clobberwalk.workshop")
            self.assertTrue(issubclass(make, Workshop))
        self.assertTrue(issubclass(GuardedCountingWorkshop, GuardedWorkshop))
        self.assertTrue(issubclass(GuardedCountingWorkshop, CountingWorkshop))


class Undo(Cases):
    def test_one_after_the_other_and_several_at_once(self):
        def check(make):
            shop = make(RICH)
            modules = [RICH]
            for edit in (ONE, TWO, THREE, FOUR):
                self.assertIsNone(shop.do(edit))
                modules.append(shop.current)
            self.assertEqual(shop.history, [(ONE,), (TWO,), (THREE,), (FOUR,)])
            self.assertIsNone(shop.undo())
            self.assertEqual((shop.current, shop.undone, shop.history), (modules[3], 1, [(ONE,), (TWO,), (THREE,)]))
            shop.undo(2)
            self.assertEqual((shop.current, shop.undone, shop.history), (modules[1], 3, [(ONE,)]))
            self.assertIsNone(shop.redo())
            self.assertEqual((shop.current, shop.undone), (modules[2], 2))
            shop.redo(many=2)
            self.assertEqual((shop.current, shop.undone), (modules[4], 0))
            shop.undo(many=4)
            self.assertEqual((shop.current, shop.undone, shop.history, len(shop)), (RICH, 4, [], 0))
            shop.redo(4)
            self.assertEqual((shop.current, len(shop)), (modules[4], 4))
        self.each(check)

    def test_numbers_that_are_none(self):
        def check(make):
            shop = make(RICH)
            for edit in (ONE, TWO, THREE):
                shop.do(edit)
            shop.undo()
            before = state(shop)
            for value in NO_NUMBERS:
                self.raises(InvalidNumber, "value", value, shop.undo, value)
                self.raises(InvalidNumber, "value", value, shop.redo, many=value)
            self.raises(InvalidNumber, "value", 3, shop.undo, 3)
            self.raises(InvalidNumber, "value", 2, shop.redo, 2)
            self.assertEqual(state(shop), before)
            shop.redo()
            with self.assertRaises(InvalidNumber) as caught:
                shop.redo()
            self.assertEqual(caught.exception.value, 1)
            shop.undo(3)
            with self.assertRaises(InvalidNumber) as caught:
                shop.undo()
            self.assertEqual(caught.exception.value, 1)
        self.each(check)

    def test_a_new_change_ends_redoing_and_a_refused_one_does_not(self):
        def check(make):
            shop = make(RICH)
            shop.do(ONE)
            shop.do(TWO)
            shop.undo()
            with self.assertRaises(InvalidEdit):
                shop.do("none")
            with self.assertRaises(UnknownName):
                shop.do(("remove", "nowhere"))
            with self.assertRaises(InvalidModule):
                shop.do(("remove", "main"))
            self.assertEqual(shop.undone, 1)
            shop.do(THREE)
            self.assertEqual((shop.undone, shop.history), (0, [(ONE,), (THREE,)]))
            shop.undo(2)
            self.assertEqual(shop.undone, 2)
            shop.do()
            self.assertEqual((shop.undone, shop.history), (0, [()]))
        self.each(check)

    def test_module_after(self):
        def check(make):
            shop = make(RICH)
            modules = [RICH]
            for edit in (ONE, TWO, THREE):
                shop.do(edit)
                modules.append(shop.current)
            shop.undo()
            for number in range(3):
                self.assertEqual(shop.module_after(number), modules[number])
                self.assertEqual(shop.module_after(number=number), modules[number])
            for value in [*[one for one in NO_NUMBERS if type(one) is not int or one != 0], 3, 4, False]:
                self.raises(InvalidNumber, "value", value, shop.module_after, value)
            self.assertEqual(make(RICH).module_after(0), RICH)
        self.each(check)

    def test_modules(self):
        def check(make):
            shop = make(RICH)
            shop.do(ONE)
            shop.do(TWO)
            shop.undo()
            self.assertTrue(inspect.isgenerator(shop.modules()))
            self.assertEqual(list(shop.modules()), [RICH, shop.current])
            early = shop.modules()
            shop.redo()
            expected = [RICH, shop.module_after(1), shop.module_after(2)]
            # Only now the iteration begins.
            self.assertEqual(next(early), RICH)
            shop.undo(2)
            shop.do(THREE)
            self.assertEqual(list(early), expected[1:])
            self.assertEqual(list(shop.modules()), [RICH, shop.current])
            self.assertEqual(list(make(RICH).modules()), [RICH])
        self.each(check)

    def test_history_is_new_and_has_tuples_of_the_edits(self):
        def check(make):
            shop = make(RICH)
            shop.do(ONE, TWO)
            shop.do()
            shop.do(("step", ("call", ("main", "start", 16))))
            found = shop.history
            self.assertEqual(found, [(ONE, TWO), (), (("step", ("call", ("main", "start", 16))),)])
            self.assertEqual([type(change) for change in found], [tuple] * 3)
            found.clear()
            self.assertEqual(len(shop.history), 3)
            self.assertEqual(len(shop), 3)
        self.each(check)


class Trials(Cases):
    class Own(Exception):
        pass

    def test_the_action_is_called_with_the_workshop_and_its_result_is_returned(self):
        def check(make):
            shop = make(RICH)
            result = ["any"]
            for trial in (shop.attempt, shop.explore):
                self.assertIs(trial(lambda one: result if one is shop else None), result)
                self.assertIs(trial(action=lambda one: result), result)
                self.assertIsNone(trial(lambda one: None))
        self.each(check)

    def test_attempt_keeps_and_explore_restores(self):
        def check(make):
            shop = make(RICH)
            shop.do(ONE)
            shop.attempt(lambda one: one.do(TWO))
            self.assertEqual(shop.history, [(ONE,), (TWO,)])
            before = state(shop)
            shop.explore(lambda one: one.do(THREE))
            self.assertEqual(state(shop), before)
            seen = shop.explore(lambda one: [one.do(THREE), one.undo(2), one.current, len(one)][2:])
            self.assertEqual(seen, [shop.module_after(1), 1])
            self.assertEqual(state(shop), before)
        self.each(check)

    def test_exceptions_restore_and_go_on(self):
        def check(make):
            shop = make(RICH)
            for edit in (ONE, TWO, THREE):
                shop.do(edit)
            shop.undo()
            before = state(shop)

            def fail(error):
                def action(one):
                    one.undo()
                    one.do(FOUR)
                    one.do(("step", ("call", ("main", "start", 16))))
                    raise error
                return action

            for trial in (shop.attempt, shop.explore):
                for error in (self.Own(), ValueError(1), KeyboardInterrupt(), InvalidNumber(1), StopIteration(), GeneratorExit()):
                    with self.assertRaises(type(error)) as caught:
                        trial(fail(error))
                    self.assertIs(caught.exception, error)
                    self.assertEqual(state(shop), before)
                    self.assertEqual(shop.depth, 0)
            shop.redo()
            self.assertEqual(shop.history, [(ONE,), (TWO,), (THREE,)])
        self.each(check)

    def test_errors_of_the_package(self):
        def check(make):
            shop = make(RICH)

            def action(one):
                one.do(ONE)
                one.do(("remove", "nowhere"))

            for trial in (shop.attempt, shop.explore):
                with self.assertRaises(UnknownName) as caught:
                    trial(action)
                self.assertEqual(caught.exception.value, "nowhere")
                self.assertEqual(state(shop), (RICH, [], 0, ([], [], [], []), 0))

            def careful(one):
                one.do(ONE)
                try:
                    one.do(("remove", "nowhere"))
                except UnknownName:
                    return one.do(TWO)

            shop.attempt(careful)
            self.assertEqual(shop.history, [(ONE,), (TWO,)])
        self.each(check)

    def test_what_cannot_be_called(self):
        def check(make):
            shop = make(RICH)
            for trial in (shop.attempt, shop.explore):
                with self.assertRaises(TypeError):
                    trial(None)
                self.assertEqual(shop.depth, 0)
        self.each(check)

    def test_by_another_name(self):
        def check(make):
            shop = make(RICH)
            shop.do(ONE)

            def action(_):
                shop.do(TWO)
                shop.undo(2)
                raise self.Own()

            with self.assertRaises(self.Own):
                shop.attempt(action)
            self.assertEqual((shop.history, shop.undone), ([(ONE,)], 0))
            shop.attempt(lambda _: shop.do(TWO))
            shop.explore(lambda _: shop.undo(2))
            self.assertEqual((shop.history, shop.undone), ([(ONE,), (TWO,)], 0))
        self.each(check)

    def test_nested(self):
        def check(make):
            shop = make(RICH)
            depths = []

            def inner(one):
                depths.append(one.depth)
                one.do(TWO)
                raise self.Own()

            def outer(one):
                depths.append(one.depth)
                one.do(ONE)
                try:
                    one.attempt(inner)
                except self.Own:
                    depths.append(one.depth)
                self.assertEqual(one.history, [(ONE,)])
                one.explore(lambda two: two.attempt(lambda three: (three.do(THREE), depths.append(three.depth))))
                self.assertEqual(one.history, [(ONE,)])
                one.attempt(lambda two: two.do(FOUR))
                return "done"

            self.assertEqual(shop.attempt(outer), "done")
            self.assertEqual(shop.history, [(ONE,), (FOUR,)])
            self.assertEqual(depths, [1, 2, 1, 3])
            shop.undo(2)
            self.assertEqual(shop.explore(outer), "done")
            self.assertEqual((shop.history, shop.undone, shop.depth), ([], 2, 0))
        self.each(check)

    def test_undo_in_a_trial_of_what_was_before(self):
        def check(make):
            shop = make(RICH)
            shop.do(ONE)
            shop.do(TWO)
            shop.attempt(lambda one: one.undo(2))
            self.assertEqual((shop.current, shop.undone), (RICH, 2))
            shop.explore(lambda one: one.redo(2))
            self.assertEqual((shop.current, shop.undone), (RICH, 2))
            shop.attempt(lambda one: one.redo())
            self.assertEqual(shop.history, [(ONE,)])
        self.each(check)

    def test_changes_are_restored(self):
        def check(make):
            shop = make(samples.EXAMPLE)
            shop.do(("delete", ("main", "start", 1)))
            before = shop.changes()
            self.assertNotEqual(before, ([], [], [], []))
            shop.explore(lambda one: one.do())
            self.assertEqual(shop.changes(), before)
            self.assertEqual(shop.attempt(lambda one: (one.do(), one.changes())[1]), ([], [], [], []))
            self.assertEqual(shop.changes(), ([], [], [], []))
        self.each(check)


if __name__ == "__main__":
    unittest.main()
