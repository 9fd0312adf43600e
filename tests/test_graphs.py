"""Promises 12, 13, 14: reached blocks, dominators, frontiers, loops."""

import itertools
import random
import unittest

import drawn
from clobberwalk import graphs
from written import graph

# Names and edges; by these the blocks are told from their words alone.
SHAPES = (
    "a",
    "a b, b",
    "a b, b b",
    "a b b, b",
    "a b c, b d, c d, d",
    "a b c, b, c",
    "a b, b c d, c b, d",
    "a b, b c d, c b b, d",
    "a b, b c d, c c b, d",
    "a b, b c, c d e, d c, e b f, f",
    "a b, b c e, c d b, d b c, e",
    "a b c, b c d, c b d, d",
    "a b c, b c, c b",
    "a b c, b d e, c e d, d b f, e c f, f",
    "a b, b c, c d, d b",
    "a c, b c, c, d b",
    "a c, b b c, c d e, d c, e, f e",
    "a b c, b d, c d, d e f, e g, f g, g b h, h",
    "a b, b c d, c e f, d f g, e b h, f h, g g h, h",
    "a b c, b b d, c d, d e c, e",
    "z y x, y w, x w, w y v, v",
    "a b c, b d e, c e f, d g, e g h, f h, g i j, h j, i k b, j k l, k, l l c",
    "a b, b c, c d, d e, e f, f g, g h, h i, i j, j k, k l b, l",
    "a b k, b c d, c b e, d b e, e f b, f g h, g f i, h f, i b j, j, k k j",
)


class Edges:
    """The words of the document, by lists of all ways."""

    def __init__(self, goals, entry):
        self.goals, self.entry = goals, entry
        self.order = list(goals)
        self.reached = [name for name in self.order if name in self.closed([entry])]

    def closed(self, starts, barred=None):
        found, waiting = [], list(starts)
        while waiting:
            name = waiting.pop()
            if name != barred and name not in found:
                found.append(name)
                waiting.extend(self.goals[name])
        return found

    def dominates(self, one, other):
        return one == other or other not in self.closed([self.entry], one)

    def strict(self, block):
        return [name for name in self.reached if name != block and self.dominates(name, block)]

    def immediate(self, block):
        found = [one for one in self.strict(block) if all([self.dominates(other, one) for other in self.strict(block)])]
        return found[0] if found else None

    def frontier(self, block):
        return [
            goal for goal in self.reached if (goal == block or not self.dominates(block, goal))
            and any([goal in self.goals[name] for name in self.reached if self.dominates(block, name)])
        ]

    def post_dominates(self, block, other):
        gives = [name for name in self.reached if not self.goals[name]]
        free, around = self.closed([other]), self.closed([other], block)
        return any([name in free for name in gives]) and not any([name in around for name in gives])

    def back(self):
        return [(name, goal) for name in self.reached for goal in self.goals[name] if self.dominates(goal, name)]

    def loops(self):
        found = []
        for head in self.reached:
            sources = [name for name, goal in self.back() if goal == head]
            inside = [head] + [
                name for name in self.reached if name != head
                and any([source in self.closed([name], head) for source in sources])
            ]
            if sources:
                found.append((head, tuple([name for name in self.order if name in inside])))
        return found

    def is_reducible(self):
        onward = Edges({
            name: [goal for goal in goals if (name, goal) not in self.back()] for name, goals in self.goals.items()
        }, self.entry)
        return not any([name in onward.closed(onward.goals[name]) for name in self.reached])


def edges_of(module):
    blocks = module[1][0][2]
    goals = {}
    for name, _, _, end in blocks:
        goals[name] = [part for part in (end[1:2] if end[0] == "go" else end[2:5:2]) if end[0] != "give"]
    return Edges(goals, blocks[0][0])


def drawn_graph(source):
    """Make a function main of up to 12 blocks that lead anywhere but to the entry."""
    count = source.randint(1, 12)
    names = drawn.labels("b", count)
    rows = []
    for name in names:
        goals = [source.choice(names[1:]) for _ in range(source.choice((0, 1, 1, 2, 2)) if count > 1 else 0)]
        rows.append(" ".join([name, *goals]))
    return graph(", ".join(rows))


class Graphs(unittest.TestCase):
    def check(self, module):
        edges = edges_of(module)
        self.assertEqual(graphs.reached(module, "main"), edges.reached)
        self.assertEqual(graphs.loops(module, "main"), edges.loops())
        self.assertEqual(graphs.is_reducible(module, "main"), edges.is_reducible())
        for block in edges.reached:
            self.assertEqual(graphs.immediate_dominator(module, "main", block), edges.immediate(block))
            self.assertEqual(graphs.frontier(module, "main", block), edges.frontier(block))
            depth = len([head for head, blocks in edges.loops() if block in blocks])
            self.assertEqual(graphs.depth(module, "main", block), depth)
        for block, other in itertools.product(edges.reached, repeat=2):
            dominates = edges.dominates(block, other)
            self.assertIs(graphs.dominates(module, "main", block, other), dominates)
            self.assertIs(graphs.post_dominates(module, "main", block, other), edges.post_dominates(block, other))
            self.check_way(edges, block, other, graphs.way_around(module, "main", block, other), dominates)

    def check_way(self, edges, block, other, way, dominates):
        if dominates:
            self.assertIsNone(way)
            return
        self.assertIsInstance(way, list)
        self.assertEqual((way[0], way[-1]), (edges.entry, other))
        self.assertNotIn(block, way)
        for one, following in zip(way, way[1:]):
            self.assertIn(following, edges.goals[one])

    def test_shapes(self):
        for text in SHAPES:
            with self.subTest(text):
                self.check(graph(text))

    def test_drawn_graphs(self):
        source = random.Random(12)
        for _ in range(250):
            self.check(drawn_graph(source))


class Told(unittest.TestCase):
    """Answers that were worked out by hand."""

    def check(self, text, expected, word, *blocks):
        self.assertEqual(getattr(graphs, word)(graph(text), "main", *blocks), expected)

    def test_reached(self):
        self.check("a", ["a"], "reached")
        self.check("z y, c c, y b, b y", ["z", "y", "b"], "reached")
        self.check("a c, b c, c, d b", ["a", "c"], "reached")

    def test_dominates(self):
        diamond = "a b c, b d, c d, d"
        self.check(diamond, True, "dominates", "a", "d")
        self.check(diamond, False, "dominates", "b", "d")
        self.check(diamond, True, "dominates", "b", "b")
        self.check(diamond, False, "dominates", "d", "a")
        self.check("a b b, b", True, "dominates", "a", "b")

    def test_an_edge_from_a_block_that_is_not_reached(self):
        self.check("a b, b c, c, d c", True, "dominates", "b", "c")
        self.check("a b, b c, c, d c", [], "frontier", "b")
        self.check("a b, b c, c, d b", [], "loops")
        self.check("a b, b, c d, d c e, e d", True, "is_reducible")

    def test_way_around(self):
        self.check("a b c, b d, c d, d", ["a", "c", "d"], "way_around", "b", "d")
        self.check("a b c, b d, c d, d", None, "way_around", "a", "d")
        self.check("a b c, b d, c d, d", None, "way_around", "d", "d")
        self.check("a b, b", ["a"], "way_around", "b", "a")
        self.check("a, b", None, "way_around", "a", "a")

    def test_immediate_dominator(self):
        for block, expected in zip("abcd", (None, "a", "a", "a")):
            self.check("a b c, b d, c d, d", expected, "immediate_dominator", block)
        for block, expected in zip("abcdef", (None, "a", "b", "c", "c", "e")):
            self.check("a b, b c, c d e, d c, e b f, f", expected, "immediate_dominator", block)

    def test_frontier(self):
        self.check("a b, b c d, c b, d", ["b"], "frontier", "b")
        self.check("a b, b c d, c b, d", ["b"], "frontier", "c")
        self.check("a b, b c d, c b, d", [], "frontier", "a")
        self.check("a b, b b", ["b"], "frontier", "b")
        self.check("z y x, x w, y w, w v x, v", ["w"], "frontier", "x")
        self.check("z y x, x w, y w, w v x, v", ["x"], "frontier", "w")
        self.check("z y x, x v w, y v w, w, v", ["w", "v"], "frontier", "x")

    def test_post_dominates(self):
        self.check("a b c, b d, c d, d", True, "post_dominates", "d", "a")
        self.check("a b c, b d, c d, d", False, "post_dominates", "b", "a")
        self.check("a b c, b, c", False, "post_dominates", "b", "a")
        self.check("a b c, b, c", True, "post_dominates", "a", "a")
        # No give can be reached from b and c.
        self.check("a b d, b c, c b, d", False, "post_dominates", "b", "b")
        self.check("a b d, b c, c b, d", False, "post_dominates", "c", "b")
        self.check("a b d, b c, c b, d", True, "post_dominates", "d", "a")
        self.check("a b, b b", False, "post_dominates", "a", "a")

    def test_loops(self):
        self.check("a b, b c d, c b, d", [("b", ("b", "c"))], "loops")
        self.check("a b, b b", [("b", ("b",))], "loops")
        self.check("a b, b c, c d e, d c, e b f, f", [("b", ("b", "c", "d", "e")), ("c", ("c", "d"))], "loops")
        # Two back edges to one head are one loop; a block on the way from neither is outside.
        self.check("a b, b c e, c d b, d b f, e, f", [("b", ("b", "c", "d"))], "loops")
        self.check("a c, d c, c d b, b", [("c", ("d", "c"))], "loops")
        # A cycle without a back edge is none.
        self.check("a b c, b c, c b", [], "loops")

    def test_depth(self):
        for block, expected in zip("abcdef", (0, 1, 2, 2, 1, 0)):
            self.check("a b, b c, c d e, d c, e b f, f", expected, "depth", block)

    def test_is_reducible(self):
        self.check("a b, b b c, c b", True, "is_reducible")
        self.check("a b c, b c, c b", False, "is_reducible")
        self.check("a b c, b c d, c b d, d", False, "is_reducible")
        self.check("a b, b c d, c d, d c b", False, "is_reducible")

    def test_each_function_of_a_module(self):
        value = (
            (), (("main", (), (("a", (), (("none", "x"),), ("give", "x")),)), ("other", *graph("p q, q q")[1][0][1:])),
        )
        self.assertEqual(graphs.loops(value, "other"), [("q", ("q",))])
        self.assertEqual(graphs.reached(value, "main"), ["a"])


if __name__ == "__main__":
    unittest.main()
