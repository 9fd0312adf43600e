"""Promises 35, 36: which values are edits, how each is done, and why a change is refused."""

import random
import unittest

import drawn
import naive_shop
import samples
from clobberwalk.errors import InvalidEdit, InvalidModule, InvalidStep, UnknownName, UnknownPlace, WrongPlace
from clobberwalk.machine import run
from clobberwalk.modules import module_error
from clobberwalk.steps import after, steps
from clobberwalk.workshop import CountingWorkshop, GuardedCountingWorkshop, GuardedWorkshop, Workshop
from written import module, thing

RICH, EXAMPLE = samples.RICH, samples.EXAMPLE
START, DEAD = ("main", "start", 0), ("main", "dead", 0)
BLOCK = ("more", ("qq",), (("show", "qq"),), ("give", "qq"))
FUNCTION = ("later", ("x",), (("a", (), (), ("give", "x")),))
KIND = ("other", ("one", "two"))

# An edit of each word, right for RICH, alone and together in this order.
GOOD = (
    ("insert", START, ("num", "first", 7)), ("delete", ("main", "loop", 0)), ("replace", START, ("num", "n", 6)),
    ("replace", ("main", "loop", 1), ("go", "both", ())), ("block", "main", BLOCK), ("drop", "main", "dead"),
    ("function", FUNCTION), ("kind", KIND), ("remove", "twin"), ("forget", "unit"), ("step", ("call", ("main", "start", 16))),
)
NONE_AT_ALL = [*samples.STRAYS, run(RICH, [1]), Workshop(RICH), RICH, "insert", ("insert",), ("step",), ()]


def done(value, *edits):
    shop = Workshop(value)
    shop.do(*edits)
    return shop.current


class Forms(unittest.TestCase):
    def refused(self, index, *edits):
        shop = Workshop(RICH)
        with self.assertRaises(InvalidEdit) as caught:
            shop.do(*edits)
        self.assertEqual(caught.exception.index, index)
        self.assertEqual((shop.current, len(shop)), (RICH, 0))

    def test_any_value_that_is_none(self):
        for value in NONE_AT_ALL:
            self.refused(0, value)
            self.refused(1, GOOD[0], value)
            self.refused(0, value, GOOD[0])

    def test_other_words_and_numbers_of_parts(self):
        for edit in GOOD:
            for wrong in ((*edit, 1), edit[:-1], ("nothing", *edit[1:]), (edit[0].upper(), *edit[1:]), (None, *edit[1:]), list(edit),
                          ([edit[0]], *edit[1:]), (edit,), edit[1:]):
                self.refused(0, wrong)

    def test_forms_of_things(self):
        for word in ("insert", "replace"):
            for part in [*samples.STRAYS, ["give", "a"], ("give",), ("give", "a", "b"), ("num", "r", True), ("num", "r", 10 ** 40 + 1),
                         ("num", "r", "1"), ("call", "r", "f", ["a"]), ("call", "r", "f", ("a",) * 7), ("go", "b", "a"), ("nothing", "a"),
                         ("give", "A"), ("if", "a", "b", (), "c"), ("show", ("a",)), ("give", "a" * 9)]:
                self.refused(0, (word, START, part))

    def test_forms_of_blocks(self):
        name, parameters, things, end = BLOCK
        for part in [*samples.STRAYS, list(BLOCK), BLOCK[:3], (*BLOCK, 1), ("A", parameters, things, end), (name, ["q"], things, end),
                     (name, ("q",) * 7, things, end), (name, ("Q",), things, end), (name, parameters, list(things), end),
                     (name, parameters, (end,), end), (name, parameters, things, things[0]), (name, parameters, (("num", "r", True),), end),
                     (name, parameters, (("show", "q"),) * 41, end), (name, parameters, things, None), (name, parameters, ((),), end)]:
            self.refused(0, ("block", "main", part))
            # A whole function of such a block, behind a right one.
            self.refused(0, ("function", ("later", ("x",), (FUNCTION[2][0], part))))

    def test_a_block_that_stands_alone_may_have_parameters(self):
        value = ("start", ("q",), (("show", "q"),) * 40, ("give", "q"))
        with self.assertRaises(InvalidModule) as caught:
            done(RICH, ("block", "main", value))
        self.assertEqual(caught.exception.reason, ("block", 0, 0))

    def test_forms_of_functions(self):
        name, parameters, blocks = FUNCTION
        for part in [*samples.STRAYS, list(FUNCTION), FUNCTION[:2], (*FUNCTION, 1), ("A", parameters, blocks), (name, ["x"], blocks),
                     (name, ("x",) * 5, blocks), (name, ("X",), blocks), (name, parameters, ()), (name, parameters, list(blocks)),
                     (name, parameters, blocks * 2), (name, parameters, tuple([(one, *blocks[0][1:]) for one in samples.names(13)])),
                     (name, parameters, (BLOCK,)), (name, parameters, (list(blocks[0]),))]:
            self.refused(0, ("function", part))

    def test_forms_of_kinds(self):
        for part in [*samples.STRAYS, list(KIND), KIND[:1], (*KIND, 1), ("A", ()), ("a", ["b"]), ("a", ("B",)), ("a", ("b", "b")),
                     ("a", tuple(samples.names(7))), (None, ())]:
            if part != ():
                self.refused(0, ("kind", part))

    def test_what_names_refer_to_does_not_matter_for_the_form(self):
        # The error tells that these are edits.
        for edit, error in (
            (("insert", START, ("new", "zz", "nowhere")), InvalidModule), (("replace", START, ("call", "n", "nowhere", ())), InvalidModule),
            (("block", "main", ("more", (), (), ("go", "nowhere", ()))), InvalidModule), (("kind", ("twin", ())), None),
            (("function", ("later", ("x", "x"), FUNCTION[2])), InvalidModule),
        ):
            if error is None:
                self.assertIsNone(module_error(done(RICH, edit)))
            else:
                with self.assertRaises(error):
                    done(RICH, edit)

    def test_a_step_beside_other_edits(self):
        step = GOOD[-1]
        self.refused(0, step, GOOD[0])
        self.refused(1, GOOD[0], step)
        self.refused(0, step, step)
        self.refused(2, GOOD[0], GOOD[0], step, "none")
        self.refused(0, step, "none")
        self.refused(0, ("step", None), ("step", None))

    def test_the_first_one_ahead_of_all_other_errors(self):
        self.refused(1, ("delete", "nowhere"), ("delete",))
        self.refused(2, ("remove", "nowhere"), ("remove", "main"), ("drop", "main"), "none")
        self.refused(1, ("delete", START), None)


class Done(unittest.TestCase):
    def check(self, text, *edits, value=EXAMPLE):
        self.assertEqual(done(value, *edits), module(text))

    TEXT = "kind pair left right\nfunction main n\nblock start\nnew p pair\nput p left n\ngo loop n\nblock loop k\nget q p left\n" \
           "if k done q / loop k\nblock done r\ngive r"

    def test_insert_before_instructions_and_before_the_end(self):
        for place, line in ((("main", "start", 0), "new p pair"), (("main", "start", 1), "put p left n"), (("main", "start", 2), "go loop n"),
                            (("main", "loop", 1), "if k"), (("main", "done", 0), "give r")):
            self.check(self.TEXT.replace(line, "num z 1\n" + line), ("insert", place, ("num", "z", 1)))

    def test_delete(self):
        self.check(self.TEXT.replace("put p left n\n", ""), ("delete", ("main", "start", 1)))

    def test_replace_an_instruction_and_an_end(self):
        self.check(self.TEXT.replace("put p left n", "set n n n"), ("replace", ("main", "start", 1), thing("set n n n")))
        self.check(self.TEXT.replace("if k done q / loop k", "go done q"), ("replace", ("main", "loop", 1), thing("go done q")))
        self.check(self.TEXT, ("replace", ("main", "done", 0), thing("give r")))

    def test_a_block_becomes_another_one_or_is_added_behind(self):
        self.check(self.TEXT.replace("block done r\ngive r", "block done z\nshow z\ngive k"),
                   ("block", "main", ("done", ("z",), (("show", "z"),), ("give", "k"))))
        self.check(self.TEXT + "\nblock all\ngive n", ("block", "main", ("all", (), (), ("give", "n"))))
        # The entry keeps its place.
        self.check(self.TEXT.replace("new p pair", "none o\nnew p pair"),
                   ("block", "main", ("start", (), (("none", "o"), *EXAMPLE[1][0][2][0][2]), ("go", "loop", ("n",)))))

    def test_drop(self):
        self.check(self.TEXT.replace("if k done q / loop k", "give k").replace("\nblock done r\ngive r", ""),
                   ("drop", "main", "done"), ("replace", ("main", "loop", 1), ("give", "k")))

    def test_a_function_where_its_name_belongs(self):
        for name in ("a", "l", "mb", "z"):
            self.check(self.TEXT + f"\nfunction {name} x\nblock a\ngive x", ("function", (name, ("x",), FUNCTION[2])))
        self.check("function main x\nblock a\ngive x", ("function", ("main", ("x",), FUNCTION[2])), ("forget", "pair"))

    def test_a_kind_where_its_name_belongs(self):
        for name in ("a", "pa", "z"):
            self.check(self.TEXT + f"\nkind {name} b", ("kind", (name, ("b",))))
        self.check(self.TEXT.replace("left right", "right left"), ("kind", ("pair", ("right", "left"))))

    def test_remove_and_forget(self):
        value = done(EXAMPLE, ("function", FUNCTION), ("kind", KIND))
        self.check(self.TEXT, ("remove", "later"), ("forget", "other"), value=value)

    def test_each_alone_and_behind_others(self):
        step = GOOD[-1]
        self.assertEqual(done(RICH, step), after(RICH, step[1]))
        shop = naive_shop.Numbered(RICH)
        chosen = [GOOD[0], GOOD[4], GOOD[6], GOOD[7], GOOD[9]]
        for at, edit in enumerate(chosen):
            shop.edit(edit)
            self.assertEqual(done(RICH, *chosen[:at + 1]), shop.module())

    def test_places_are_those_after_the_edits_before(self):
        insert = ("insert", ("main", "start", 0), ("num", "z", 1))
        self.check(self.TEXT.replace("new p", "num z 1\nnew p").replace("put p left n\n", ""), insert, ("delete", ("main", "start", 2)))
        self.check(self.TEXT, insert, ("delete", ("main", "start", 0)))
        new = ("function", ("a", (), (("b", (), (("none", "o"),), ("give", "o")),)))
        self.check(self.TEXT + "\nfunction a\nblock b\nnone o\nnum z 1\ngive o", new, ("insert", ("a", "b", 1), ("num", "z", 1)))
        self.check(self.TEXT + "\nfunction a\nblock c\nfun o a\ngive o", new, ("drop", "a", "b"), ("block", "a", ("c", (), (("fun", "o", "a"),), ("give", "o"))))

    def test_only_what_comes_of_all_has_to_be_a_module(self):
        self.check(self.TEXT, ("remove", "main"), ("function", EXAMPLE[1][0]))
        self.check(self.TEXT, ("forget", "pair"), ("kind", EXAMPLE[0][0]))
        many = [("kind", (name, ())) for name in samples.names(20)]
        self.check(self.TEXT, *many, *[("forget", name) for name in samples.names(20)])
        shows = [("insert", ("main", "start", 0), ("show", "n"))] * 200
        self.check(self.TEXT, *shows, *[("delete", ("main", "start", 0))] * 200)

    def test_in_blocks_that_are_not_reached(self):
        for edit in (("insert", DEAD, ("show", "anything")), ("delete", DEAD), ("replace", DEAD, ("show", "zz")),
                     ("replace", ("main", "dead", 1), ("give", "zz"))):
            self.assertIsNone(module_error(done(RICH, edit)))
        self.assertEqual(done(RICH, ("delete", DEAD))[1][0][2][4], ("dead", ("s",), (), ("go", "done", ("s",))))

    def test_no_edits(self):
        shop = Workshop(RICH)
        shop.do()
        self.assertEqual((shop.current, shop.history, len(shop)), (RICH, [()], 1))


class Refused(unittest.TestCase):
    def refused(self, error, field, value, *edits, module_of=RICH):
        for make in (Workshop, CountingWorkshop, GuardedWorkshop, GuardedCountingWorkshop):
            shop = make(module_of)
            shop.do()
            shop.do()
            shop.undo()
            with self.assertRaises(error) as caught:
                shop.do(*edits)
            if field == "reason":
                self.assertEqual(caught.exception.reason, value)
            else:
                self.assertIs(getattr(caught.exception, field), value)
            self.assertEqual((shop.current, shop.history, shop.undone, shop.changes()), (module_of, [()], 1, ([], [], [], [])))

    WRONG_PLACES = [
        *samples.STRAYS, ("main", "start"), ("main", "start", 19), ("main", "start", -1), ("main", "start", True), ["main", "start", 0],
        ("nowhere", "start", 0), ("main", "nowhere", 0), ("main", "start", "0"), ("main", "start", None), (["main"], "start", 0),
        ("main", {}, 0), ("twin", "start", 0), ("main", "dead", 2), run(RICH, [1]), ("main", "start", 0, 0),
    ]
    WRONG_NAMES = [*samples.STRAYS, "nowhere", ("main",), ["main"], run(RICH, [1])]

    def test_places_that_are_not_there(self):
        for place in self.WRONG_PLACES:
            self.refused(UnknownPlace, "value", place, ("insert", place, ("num", "z", 1)))
            self.refused(UnknownPlace, "value", place, ("insert", place, ("give", "z")))
            self.refused(UnknownPlace, "value", place, ("delete", place))
            self.refused(UnknownPlace, "value", place, ("replace", place, ("num", "z", 1)))
        for place in [one for one in self.WRONG_PLACES if one != ("main", "start", 19)]:
            self.refused(UnknownPlace, "value", place, GOOD[0], ("replace", place, ("give", "z")))

    def test_places_of_another_sort(self):
        end = ("main", "start", 18)
        for edit in (("insert", START, ("give", "x")), ("insert", end, ("go", "loop", ("x", "p"))), ("delete", end),
                     ("replace", START, ("give", "x")), ("replace", end, ("show", "x")), ("replace", DEAD, ("give", "x")),
                     ("delete", ("main", "dead", 1))):
            self.refused(WrongPlace, "place", edit[1], edit)

    def test_names_that_are_not_there(self):
        for name in self.WRONG_NAMES:
            self.refused(UnknownName, "value", name, ("block", name, BLOCK))
            self.refused(UnknownName, "value", name, ("drop", name, "start"))
            self.refused(UnknownName, "value", name, ("drop", name, name))
            self.refused(UnknownName, "value", name, ("remove", name))
            self.refused(UnknownName, "value", name, ("drop", "main", name))
            self.refused(UnknownName, "value", name, ("forget", name))
        self.refused(UnknownName, "value", "pair", ("remove", "pair"))
        self.refused(UnknownName, "value", "main", ("forget", "main"))
        self.refused(UnknownName, "value", "only", ("drop", "main", "only"))

    def test_steps_that_are_none(self):
        for step in [*samples.STRAYS, ("call", START), ("function", "twin"), GOOD[-1], run(RICH, [1])]:
            self.refused(InvalidStep, "value", step, ("step", step))

    def test_what_is_no_module(self):
        for edits, reason in (
            ([("remove", "twin")], ("name", 0, 0, 2)), ([("remove", "main")], ("main",)), ([("remove", "main"), ("remove", "twin")], ("form",)),
            ([("drop", "main", "done")], ("name", 0, 2, 1)), ([("drop", "twin", "only")], ("function", 1)),
            ([("forget", "pair")], ("name", 0, 0, 9)), ([("kind", ("pair", ("right",)))], ("name", 0, 0, 11)),
            ([("insert", START, ("num", "n", 1))], ("twice", 0, "n")), ([("delete", START)], ("use", 0, 0, 2, "n")),
            ([("insert", START, ("show", "x"))] * 23, ("block", 0, 0)), ([("kind", (name, ())) for name in samples.names(7)], ("form",)),
            ([("replace", ("main", "start", 18), ("go", "start", ()))], ("name", 0, 0, 18)), ([("drop", "main", "start")], ("block", 0, 0)),
            ([("block", "main", (name, (), (("show", "x"),) * 40, ("give", "x"))) for name in ("da", "db", "dc")], ("size",)),
        ):
            self.refused(InvalidModule, "reason", reason, *edits)
            self.assertEqual(module_error(self.module_by(edits)), reason)

    def module_by(self, edits):
        shop = naive_shop.Numbered(RICH)
        for edit in edits:
            shop.edit(edit)
        return shop.module()

    def test_the_first_edit_that_cannot_be_done(self):
        first, second = ("delete", ("main", "start", 99)), ("remove", "nowhere")
        self.refused(UnknownPlace, "value", first[1], GOOD[0], first, second)
        self.refused(UnknownName, "value", second[1], GOOD[0], second, first)
        self.refused(WrongPlace, "place", ("main", "start", 18), ("remove", "main"), ("function", RICH[1][0]), ("delete", ("main", "start", 18)), first)

    def test_before_what_comes_of_all(self):
        self.refused(UnknownPlace, "value", START, ("remove", "main"), ("delete", START))
        self.refused(UnknownName, "value", "main", ("remove", "main"), ("remove", "main"))
        self.refused(UnknownName, "value", "pair", ("forget", "pair"), ("forget", "pair"))
        self.refused(UnknownName, "value", "main", ("remove", "main"), ("drop", "main", "start"))
        self.refused(UnknownPlace, "value", START, ("drop", "main", "start"), ("insert", START, ("none", "z")))


class SecondAnswer(unittest.TestCase):
    def test_drawn_changes(self):
        source = random.Random(35)
        found = []
        for _ in range(60):
            shop, other = Workshop(drawn.draw_module(source, 3, 3, 4)), None
            for _ in range(12):
                edits = draw_edits(source, shop.current)
                other = naive_shop.Numbered(shop.current)
                for edit in edits:
                    other.edit(edit)
                reason = module_error(other.module())
                if reason is None:
                    shop.do(*edits)
                    self.assertEqual(shop.current, other.module())
                    found.extend([edit[0] for edit in edits])
                else:
                    with self.assertRaises(InvalidModule) as caught:
                        shop.do(*edits)
                    self.assertEqual(caught.exception.reason, reason)
                    found.append("refused")
        for word in ("insert", "delete", "replace", "block", "drop", "function", "kind", "remove", "forget", "step", "refused"):
            self.assertGreater(found.count(word), 2, word)


def draw_edits(source, value):
    """Draw edits that can be done one after another, or a step; what comes of them need not be a module."""
    shop = naive_shop.Numbered(value)
    if source.random() < 0.3 and steps(value):
        return [("step", source.choice(steps(value)))]
    edits = []
    for _ in range(source.choice((0, 1, 1, 1, 2, 3))):
        edit = draw_edit(source, shop.module())
        if edit is not None:
            shop.edit(edit)
            edits.append(edit)
    return edits


def draw_edit(source, value):
    places = naive_shop.places_of(value)
    instructions = [place for place, one in places if one[0] not in ("go", "if", "give")]
    word = source.choice(("insert", "insert", "insert", "delete", "delete", "replace", "block", "drop", "function", "kind", "remove", "forget"))
    fresh = "y" + "".join(source.choices("abcdefgh", k=5))
    if word == "kind":
        return (word, source.choice([*value[0], (fresh, ("left",)), ("box", ("left", "key")), ("pair", ("left",))]))
    if word == "forget":
        return (word, source.choice(value[0])[0]) if value[0] else None
    if word == "function":
        # What lost all its blocks, or got an entry with parameters, is none.
        whole = [function for function in value[1] if function[2] and not function[2][0][1]]
        return (word, source.choice([*whole, (fresh, (), (("a", (), (("num", "n", 1),), ("give", "n")),))]))
    if word == "remove":
        return (word, source.choice(value[1])[0]) if value[1] else None
    blocks = [(function[0], block) for function in value[1] for block in function[2]]
    if not blocks:
        return None
    f, block = source.choice(blocks)
    if word == "block":
        return (word, f, source.choice([block, (fresh, (), (("new", fresh, "box"),), ("give", fresh)), (*block[:2], (), block[3])]))
    if word == "drop":
        return (word, f, block[0])
    if word == "insert":
        calls = [("call", fresh, function[0], ()) for function in value[1] if function[1] == ()]
        return (word, source.choice(places)[0], source.choice([("new", fresh, "box"), ("num", fresh, 1), ("none", fresh), *calls]))
    if not instructions:
        return None
    place = source.choice(instructions)
    one = dict(places)[place]
    others = [one, one, ("new", one[1], "unit"), ("none", one[1])]
    return (word, place) if word == "delete" else (word, place, source.choice(others))


if __name__ == "__main__":
    unittest.main()
