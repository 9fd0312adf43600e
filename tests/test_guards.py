"""Promise 40: workshops that guard the behaviour, that count, and that do both."""

import unittest

import samples
from clobberwalk.errors import Broken, InvalidEdit, InvalidInputs, InvalidModule, InvalidNumber, InvalidStep, UnknownName, UnknownPlace
from clobberwalk.machine import run
from clobberwalk.workshop import CountingWorkshop, GuardedCountingWorkshop, GuardedWorkshop
from written import body

# It shows its input, and gives none for 0 and a pair for all others.
VALUE = body("show x\nif x b / c\nblock b\nnew p pair\ngive p\nblock c\nnone o\ngive o", "x", "kind pair left")
# An edit that alters the behaviour for 0 alone, one for all others alone, one for none, one for all.
FOR_ZERO = ("replace", ("main", "c", 0), ("num", "o", 3))
FOR_OTHERS = ("replace", ("main", "b", 0), ("num", "p", 4))
FOR_NONE = ("insert", ("main", "a", 0), ("num", "z", 1))
FOR_ALL = ("delete", ("main", "a", 0))
GUARDS = (GuardedWorkshop, GuardedCountingWorkshop)
COUNTERS = (CountingWorkshop, GuardedCountingWorkshop)


def state(shop):
    return (shop.current, shop.history, shop.undone, shop.changes(), shop.depth, getattr(shop, "counts", None))


class Guards(unittest.TestCase):
    def broken(self, index, shop, *edits):
        before = state(shop)
        with self.assertRaises(Broken) as caught:
            shop.do(*edits)
        self.assertEqual(caught.exception.index, index)
        self.assertEqual(state(shop), before)

    def test_the_index_of_the_first_list(self):
        for make in GUARDS:
            shop = make(VALUE, [1], [0], (2,), [0])
            self.broken(1, shop, FOR_ZERO)
            self.broken(0, shop, FOR_OTHERS)
            self.broken(0, shop, FOR_ALL)
            self.broken(0, shop, FOR_ZERO, FOR_OTHERS)
            shop.do(FOR_NONE)
            self.assertEqual(len(shop), 1)
            self.broken(2, make(VALUE, [0], [0], [5]), FOR_OTHERS)

    def test_what_no_list_shows(self):
        for make in GUARDS:
            shop = make(VALUE, [1])
            shop.do(FOR_ZERO)
            self.broken(0, shop, FOR_OTHERS)
            other = make(VALUE)
            other.do(FOR_ALL)
            self.assertEqual((len(shop), len(other)), (1, 1))

    def test_outputs_ends_and_faults_count(self):
        shop = GuardedWorkshop(VALUE, [1])
        self.broken(0, shop, ("insert", ("main", "a", 0), ("show", "x")))
        self.broken(0, shop, ("insert", ("main", "b", 1), ("show", "p")))
        self.broken(0, shop, ("replace", ("main", "b", 0), ("none", "p")))
        faulty = body("fun f main\nmul r f x\ngive r", "x", "")
        shop = GuardedWorkshop(faulty, [1])
        # The fault may come at another place, but not another one.
        shop.do(("insert", ("main", "a", 0), ("num", "z", 1)))
        self.broken(0, shop, ("delete", ("main", "a", 2)), ("replace", ("main", "a", 2), ("give", "x")))
        self.broken(0, shop, ("replace", ("main", "a", 2), ("ask", "r", "x", ())))

    def test_runs_that_do_not_end(self):
        value = body("go b x\nblock b y\nshow y\ngo b y", "x", "")
        shop = GuardedWorkshop(value, [1])
        self.assertEqual(run(value, [1]).end, ("limit",))
        shop.do(("insert", ("main", "b", 0), ("show", "y")), ("delete", ("main", "b", 0)))
        self.broken(0, shop, ("replace", ("main", "b", 1), ("give", "y")))
        # With another instruction in the loop less is shown in as many steps.
        self.broken(0, shop, ("insert", ("main", "b", 0), ("num", "z", 1)))

    def test_inputs_that_do_not_fit_any_more(self):
        name, _, blocks = VALUE[1][0]
        for parameters in ((), ("x", "y"), ("y", "x")):
            text = (name, parameters, blocks if parameters else (("a", (), (("num", "x", 1), *blocks[0][2]), blocks[0][3]), *blocks[1:]))
            for make in GUARDS:
                self.broken(0, make(VALUE, [1], [0]), ("function", text))
                make(VALUE).do(("function", text))

    def test_the_behaviour_of_the_first_module(self):
        shop = GuardedWorkshop(VALUE, [1])
        for _ in range(3):
            shop.do(("insert", ("main", "c", 0), ("show", "x")))
            self.broken(0, shop, FOR_ALL)
        shop.undo()
        self.broken(0, shop, FOR_OTHERS)
        self.assertEqual(len(shop), 2)

    def test_behind_all_other_errors(self):
        for make in GUARDS:
            shop = make(VALUE, [1])
            for error, edits in (
                (InvalidEdit, (FOR_ALL, "none")), (UnknownName, (FOR_ALL, ("remove", "nowhere"))), (UnknownPlace, (FOR_ALL, ("delete", None))),
                (InvalidStep, (("step", None),)), (InvalidModule, (FOR_ALL, ("forget", "pair"))),
            ):
                before = state(shop)
                with self.assertRaises(error):
                    shop.do(*edits)
                self.assertEqual(state(shop), before)

    def test_a_refused_change_does_not_end_redoing(self):
        for make in GUARDS:
            shop = make(VALUE, [1])
            shop.do(FOR_NONE)
            shop.undo()
            self.broken(0, shop, FOR_ALL)
            shop.redo()
            self.assertEqual(len(shop), 1)

    def test_a_change_of_no_edits_and_steps(self):
        for make in GUARDS:
            shop = make(samples.RICH, [1], [0])
            shop.do()
            shop.do(("step", ("call", ("main", "start", 16))))
            shop.do(("step", ("num", ("main", "start", 8))))
            self.assertEqual(len(shop), 3)

    def test_undo_redo_and_trials_look_at_no_inputs(self):
        for make in GUARDS:
            shop = make(VALUE, [1])
            shop.do(FOR_NONE)
            shop.undo()
            shop.redo()
            shop.attempt(lambda one: one.undo())
            shop.explore(lambda one: one.redo())
            self.assertEqual((shop.current, shop.undone), (VALUE, 1))
            with self.assertRaises(Broken):
                shop.attempt(lambda one: (one.redo(), one.do(("delete", ("main", "a", 1)))))
            self.assertEqual((shop.current, shop.undone), (VALUE, 1))

    def test_inputs(self):
        for make in GUARDS:
            given = [[1], (2,), [10 ** 40]]
            shop = make(VALUE, *given)
            self.assertEqual(shop.inputs, ((1,), (2,), (10 ** 40,)))
            given[0].append(5)
            given[0][0] = 7
            self.assertEqual(shop.inputs, ((1,), (2,), (10 ** 40,)))
            self.assertEqual([type(part) for part in (shop.inputs, *shop.inputs)], [tuple] * 4)
            self.assertEqual(make(VALUE).inputs, ())
            self.assertEqual(make.from_text(shop.text()).inputs, ())

    def test_inputs_that_are_none(self):
        for make in GUARDS:
            for value in [*[one for one in samples.STRAYS if one not in ((1,), [1])], [1, 2], [10 ** 40 + 1], [True], ["1"], {1: 1}, run(VALUE, [1])]:
                for inputs in ((value,), ([1], value), ([1], value, "none")):
                    with self.assertRaises(InvalidInputs) as caught:
                        make(VALUE, *inputs)
                    self.assertIs(caught.exception.value, value)
            with self.assertRaises(InvalidModule):
                make(None, "none")


class Counts(unittest.TestCase):
    def test_what_was_done_undone_redone(self):
        for make in COUNTERS:
            shop = make(VALUE)
            self.assertEqual(shop.counts, {})
            shop.do(FOR_ZERO)
            self.assertEqual(shop.counts, {"do": 1})
            shop.undo()
            self.assertEqual(shop.counts, {"do": 1, "undo": 1})
            shop.redo()
            self.assertEqual(list(shop.counts.items()), [("do", 1), ("redo", 1), ("undo", 1)])
            shop.do(FOR_NONE)
            shop.do()
            shop.undo(3)
            shop.redo(many=2)
            shop.undo(many=1)
            self.assertEqual(list(shop.counts.items()), [("do", 3), ("redo", 3), ("undo", 5)])

    def test_trials_take_nothing_back(self):
        def action(shop):
            shop.do(FOR_NONE)
            shop.undo(2)
            shop.redo()
            raise KeyError(1)

        for make in COUNTERS:
            shop = make(VALUE)
            shop.do()
            for trial in (shop.attempt, shop.explore):
                with self.assertRaises(KeyError):
                    trial(action)
            self.assertEqual(shop.counts, {"do": 3, "redo": 2, "undo": 4})
            shop.explore(lambda one: one.do())
            self.assertEqual(shop.counts, {"do": 4, "redo": 2, "undo": 4})
            self.assertEqual((len(shop), shop.undone), (1, 0))

    def test_what_raises_an_error_is_not_counted(self):
        for make in COUNTERS:
            shop = make(VALUE)
            for error, function, args in ((InvalidEdit, shop.do, [None]), (UnknownName, shop.do, [("remove", "nowhere")]), (InvalidNumber, shop.undo, [1]),
                                          (InvalidModule, shop.do, [("remove", "main")]), (InvalidNumber, shop.redo, []), (InvalidNumber, shop.undo, [None])):
                with self.assertRaises(error):
                    function(*args)
            self.assertEqual(shop.counts, {})

    def test_they_are_new(self):
        for make in COUNTERS:
            shop = make(VALUE)
            shop.do()
            shop.counts.clear()
            self.assertEqual(shop.counts, {"do": 1})

    def test_both_at_once(self):
        shop = GuardedCountingWorkshop(VALUE, [1])
        with self.assertRaises(Broken):
            shop.do(FOR_ALL)
        self.assertEqual(shop.counts, {})
        shop.do(FOR_ZERO)
        shop.undo()
        with self.assertRaises(Broken):
            shop.do(FOR_OTHERS)
        shop.redo()
        self.assertEqual((shop.counts, shop.inputs), ({"do": 1, "redo": 1, "undo": 1}, ((1,),)))

    def test_undone_by_nothing_else(self):
        shop = CountingWorkshop(VALUE)
        shop.do(FOR_ALL)
        list(shop.modules())
        shop.changes()
        shop.text()
        shop.ask("facts")
        self.assertEqual(shop.counts, {"do": 1})


if __name__ == "__main__":
    unittest.main()
