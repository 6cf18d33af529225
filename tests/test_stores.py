"""Stores and heaps, holds, part_of and lost, as A3 and B1 to B6 tell of them."""

import copy
import itertools
import random
import unittest

from examples import wrong_examples
from heldapart.errors import BadText, Open
from heldapart.sayingtexts import read_saying
from heldapart.stores import heap_error, holds, lost, part_of, store_error
from shapes import clauses, heaps, same_twice

EXAMPLES = r"""
    >>> from heldapart.stores import heap_error, holds, lost, part_of, store_error
    >>> [store_error(value) for value in ((("result", 0), ("y", 7)), (), [("x", 0)], (("y", 0), ("x", 1)), (("x", 0), ("x", 0)), (("x", -1),), (("x", True),), (("nil", 0),), (("x",),))]
    [None, None, 'form', ('order', 1), ('order', 1), ('item', 0), ('item', 0), ('item', 0), ('item', 0)]
    >>> [heap_error(value) for value in (((1, 2), (2, 0)), (), ((2, 1), (1, 2)), ((1, 2), (1, 3)), ((0, 1),), ((1, -1),), ((1, 2), [2, 0]), ((5, 5), (4, 0), (3,)))]
    [None, None, ('order', 1), ('order', 1), ('item', 0), ('item', 0), ('item', 1), ('item', 2)]
    >>> from heldapart.sayingtexts import read_saying
    >>> store, heap = (("x", 8), ("y", 3)), ((3, 5), (5, 0), (8, 3))
    >>> [holds(read_saying(text), store, heap) for text in ("cell(x, y) * list(y, nil)", "list(x, nil)", "list(x, y) * list(y, nil)", "x = y | list(x, nil)", "x != y * list(x, x) * list(x, nil)")]
    [True, True, True, True, True]
    >>> [holds(read_saying(text), store, heap) for text in ("cell(x, y)", "list(x, nil) * list(y, nil)", "list(y, x) * cell(x, y)", "empty", "x = y * list(x, nil)")]
    [False, False, False, False, False]
    >>> [part_of(read_saying(text)[0], store, heap) for text in ("list(y, nil)", "cell(x, y)", "empty", "x = y", "cell(y, x)", "list(x, y) * cell(x, y)")]
    [((3, 5), (5, 0)), ((8, 3),), (), None, None, None]
    >>> ends, ring = (("a", 1), ("b", 2)), ((1, 2), (2, 1))
    >>> [holds(read_saying(text), ends, ring) for text in ("list(a, b) * list(b, a)", "list(a, nil)", "list(a, a)", "cell(a, b) * cell(b, a)")]
    [True, False, False, True]
    >>> lost(store, heap), lost((("y", 3),), heap), lost((("x", 5),), heap), lost((), ring), lost((("a", 2),), ring), lost((("x", 9),), ((4, 4), (9, 9)))
    ((), (8,), (3, 8), (1, 2), (), (4,))
"""

BIG = 10 ** 399
NO_TUPLES = [
    None, True, False, 0, 1, -3, BIG, "", "x", "form", [], {}, [("x", 0)], [(1, 0)], {"x": 0}, {1: 0}, {(): ()},
    [()], BadText(), Open("x", (0,)),
]
NO_VALUES = [
    -1, -BIG, True, False, None, "", "0", "nil", "x", (), (0,), (1,), [], [0], {}, {0: 0}, BadText(), Open("x", (0,)),
]
NO_NAMES = [
    "nil", "", "X", "xY", "x1", "x ", " x", "x\n", "abcdefghi", "cell", "list", "empty", "is", "isnt", "fun", "head",
    "foot", "with", "var", "if", "else", "while", "keep", "new", "free", "any", "Result", "x,", "_",
    None, True, False, 0, 1, -1, BIG, (), ("x",), [], ["x"], {}, {"x": 0}, BadText(), Open("x", (0,)),
]


def looks_hold(looks, values):
    return all((values[a] == values[b]) == (word == "is") for word, a, b in looks)


def plain_take(part, values, cells):
    """The addresses that a part takes, None if it fails, told as B2 tells it."""
    word, a, b = part
    begin, end = values[a], values[b]
    if word == "cell":
        return [begin] if cells.get(begin, None) == end else None
    met = []
    at = begin
    while at != end:
        if at not in cells or at in met:
            return None
        met.append(at)
        at = cells[at]
    return met


def plain_part_of(clause, store, heap):
    values, cells = {"nil": 0, **dict(store)}, dict(heap)
    if not looks_hold(clause[0], values):
        return None
    rows = [plain_take(part, values, cells) for part in clause[1]]
    if None in rows:
        return None
    took = sorted(address for row in rows for address in row)
    if len(set(took)) < len(took):
        return None
    return tuple((address, cells[address]) for address in took)


def plain_holds(saying, store, heap):
    return any(plain_part_of(clause, store, heap) == heap for clause in saying)


def plain_lost(store, heap):
    reached = {value for _, value in store}
    while True:
        more = reached | {value for address, value in heap if address in reached}
        if more == reached:
            return tuple(sorted(address for address, _ in heap if address not in reached))
        reached = more


class Examples(unittest.TestCase):
    def test_examples_as_they_stand_in_the_document(self):
        self.assertEqual(wrong_examples(EXAMPLES), (11, []))


class Forms(unittest.TestCase):
    def told(self, function, value, meant):
        got = function(value)
        self.assertEqual(got, meant, value)
        if meant is not None and meant != "form":
            self.assertIs(type(got), tuple)
            self.assertIs(type(got[1]), int)

    def test_stores_that_are(self):
        for value in ((), (("x", 0),), (("result", 0),), (("result", BIG),), (("a", 3), ("b", 3)),
                      (("a", 3), ("aa", 3), ("b", 0)), (("abcdefgh", 1), ("abcdefgi", 0)), (("result", 1), ("s", 2)),
                      (("isn", 0), ("isnta", 1), ("nils", 4)), (("x", 2 ** 70), ("y", 2 ** 70 - 1))):
            self.told(store_error, value, None)
        names = sorted(a + b for a in "bcdfgh" for b in "bcdfghjk")
        self.told(store_error, tuple((name, at) for at, name in enumerate(names)), None)

    def test_heaps_that_are(self):
        for value in ((), ((1, 0),), ((1, 1),), ((BIG, BIG),), ((1, 2), (2, 1)), ((5, 0), (6, BIG), (BIG, 5)),
                      ((BIG - 1, 0), (BIG, 0)), ((2 ** 64, 3), (2 ** 64 + 1, 0))):
            self.told(heap_error, value, None)
        self.told(heap_error, tuple((at, at + 1) for at in range(1, 3000)), None)

    def test_no_tuples(self):
        for value in NO_TUPLES:
            self.told(store_error, value, "form")
            self.told(heap_error, value, "form")
        self.told(store_error, [None], "form")
        self.told(heap_error, [None], "form")

    def wrong_item(self, function, item, good):
        """The item is wrong alone, and ahead of, between and behind good ones."""
        for ahead, behind in ((0, 0), (1, 0), (0, 1), (2, 2), (3, 0), (0, 4)):
            value = good[:ahead] + (item,) + good[ahead:ahead + behind]
            self.told(function, value, ("item", ahead))

    def wrong_name(self, item):
        self.wrong_item(store_error, item, (("a", 0), ("b", 4), ("c", 0), ("result", 9)))

    def wrong_cell(self, item):
        self.wrong_item(heap_error, item, ((1, 0), (2, 2), (7, 1), (BIG, 9)))

    def test_items_that_are_no_pairs(self):
        for item in NO_TUPLES + [(), ("x",), (1,), ("x", 0, 0), (1, 0, 0), ("x", 1, "y", 2), (1,) * 9, ["x", 0],
                                 [1, 0], "x0", (("x", 0),), ((1, 0),), {"x": 0, "y": 1}, {1: 0, 2: 0}]:
            self.wrong_name(item)
            self.wrong_cell(item)

    def test_names_that_are_none(self):
        for name in NO_NAMES:
            self.wrong_name((name, 0))
            self.wrong_name((name, 5))

    def test_values_that_are_none(self):
        for value in NO_VALUES:
            self.wrong_name(("x", value))
            self.wrong_name(("result", value))
            self.wrong_cell((1, value))
            self.wrong_cell((BIG, value))

    def test_addresses_that_are_none(self):
        for address in [0, *NO_VALUES, "result"]:
            self.wrong_cell((address, 0))
            self.wrong_cell((address, 1))
        self.wrong_name((1, 0))
        self.wrong_name((0, "x"))

    def test_order(self):
        for function, value, spot in (
            (store_error, (("b", 0), ("a", 0)), 1),
            (store_error, (("a", 0), ("a", 0)), 1),
            (store_error, (("a", 0), ("a", 1)), 1),
            (store_error, (("a", 0), ("b", 0), ("b", 0)), 2),
            (store_error, (("a", 0), ("c", 0), ("b", 0), ("a", 0)), 2),
            (store_error, (("s", 0), ("result", 0)), 1),
            (store_error, (("aa", 0), ("a", 0)), 1),
            (heap_error, ((2, 0), (1, 0)), 1),
            (heap_error, ((1, 0), (1, 0)), 1),
            (heap_error, ((1, 0), (1, 5)), 1),
            (heap_error, ((1, 0), (2, 0), (2, 0)), 2),
            (heap_error, ((9, 0), (10, 0), (8, 0), (7, 0)), 2),
            (heap_error, ((BIG, 0), (BIG - 1, 0)), 1),
            (heap_error, ((10, 0), (9, 0)), 1),
        ):
            self.told(function, value, ("order", spot))
        rising = tuple((at, 0) for at in range(1, 2000))
        self.told(heap_error, rising + ((5, 0),), ("order", 1999))
        self.told(heap_error, rising[::-1], ("order", 1))

    def test_items_are_looked_at_ahead_of_the_order(self):
        self.told(store_error, (("b", 0), ("a", 0), ("c", -1)), ("item", 2))
        self.told(store_error, (("b", -1), ("a", 0)), ("item", 0))
        self.told(store_error, (("b", 0), ("a", -1)), ("item", 1))
        self.told(heap_error, ((2, 0), (1, 0), (3, None)), ("item", 2))
        self.told(heap_error, ((0, 0), (0, 0)), ("item", 0))
        self.told(heap_error, ((3, 0), (2, 0), (1, 0), [4, 0], (0, 0)), ("item", 3))

    def test_first_wrong_item_is_told(self):
        self.told(store_error, (("a", 0), ("nil", 0), None, ("x",)), ("item", 1))
        self.told(heap_error, ((1, 0), (2, 0), (3, -1), (0, 1)), ("item", 2))

    def test_a_store_is_no_heap(self):
        self.told(heap_error, (("x", 1),), ("item", 0))
        self.told(store_error, ((1, 1),), ("item", 0))

    def test_deep_values(self):
        deep = ()
        for _ in range(38):
            deep = (deep,)
        self.told(store_error, deep, ("item", 0))
        self.told(heap_error, ((1, deep),), ("item", 0))
        self.told(heap_error, ((deep, 1),), ("item", 0))
        self.told(store_error, (("a", 0), (deep, 1)), ("item", 1))


class Holding(unittest.TestCase):
    def part(self, text, store, heap, meant):
        clause = read_saying(text)[0]
        self.assertEqual(part_of(clause, store, heap), meant, text)
        whole = meant is not None and meant == heap
        self.assertIs(holds((clause,), store, heap), whole, text)
        never = ((("isnt", "nil", "nil"),), ())
        self.assertIs(holds((never, clause), store, heap), whole, text)

    def test_looks(self):
        store = (("a", 3), ("b", 3), ("c", 0), ("result", 4))
        for text, good in (("a = b", True), ("a != b", False), ("a = c", False), ("a != c", True), ("c = nil", True),
                           ("nil = c", True), ("c != nil", False), ("nil = nil", True), ("nil != nil", False),
                           ("result = a", False), ("result != a", True), ("result = result", True),
                           ("a = b * a != c", True), ("a = b * a = c", False), ("a != b * a != c", False)):
            self.part(text, store, (), () if good else None)
            self.part(text, store, ((3, 3),), () if good else None)

    def test_cells(self):
        store, heap = (("a", 3), ("b", 5), ("c", 9)), ((3, 5), (5, 0), (7, 3))
        self.part("cell(a, b)", store, heap, ((3, 5),))
        self.part("cell(b, nil)", store, heap, ((5, 0),))
        self.part("cell(a, b) * cell(b, nil)", store, heap, ((3, 5), (5, 0)))
        self.part("cell(b, nil) * cell(a, b)", store, heap, ((3, 5), (5, 0)))
        for text in ("cell(a, nil)", "cell(a, a)", "cell(b, a)", "cell(c, nil)", "cell(nil, a)", "cell(nil, nil)",
                     "cell(c, c)", "cell(a, b) * cell(a, b)", "cell(a, b) * cell(c, nil)", "a = b * cell(a, b)"):
            self.part(text, store, heap, None)

    def test_a_cell_that_holds_its_own_address(self):
        store, heap = (("a", 3), ("b", 3)), ((3, 3),)
        for text in ("cell(a, a)", "cell(a, b)", "cell(b, a)"):
            self.part(text, store, heap, heap)
        for text in ("list(a, a)", "list(a, b)"):
            self.part(text, store, heap, ())
        for text in ("list(a, nil)", "list(nil, a)", "cell(a, nil)", "cell(a, a) * cell(b, b)"):
            self.part(text, store, heap, None)
        self.part("cell(a, a) * list(a, b)", store, heap, heap)

    def test_chains(self):
        store, heap = (("a", 1), ("b", 3), ("c", 0), ("d", 8)), ((1, 2), (2, 3), (3, 0), (8, 1))
        self.part("list(a, nil)", store, heap, heap[:3])
        self.part("list(a, c)", store, heap, heap[:3])
        self.part("list(a, b)", store, heap, heap[:2])
        self.part("list(b, nil)", store, heap, heap[2:3])
        self.part("list(a, b) * list(b, nil)", store, heap, heap[:3])
        self.part("list(b, nil) * list(a, b)", store, heap, heap[:3])
        self.part("list(a, b) * cell(b, nil)", store, heap, heap[:3])
        self.part("list(d, a) * list(a, b) * list(b, nil)", store, heap, heap)
        self.part("cell(d, a) * list(a, nil)", store, heap, heap)
        self.part("list(d, nil)", store, heap, heap)
        self.part("list(d, b) * cell(b, c)", store, heap, heap)
        for text in ("list(b, a)", "list(a, d)", "list(a, nil) * list(a, b)", "list(a, nil) * list(b, nil)",
                     "list(d, a) * list(d, a)", "cell(a, b)", "list(a, nil) * cell(b, nil)", "list(nil, a)"):
            self.part(text, store, heap, None)

    def test_ends_that_are_met_at_once(self):
        store, heap = (("a", 1), ("b", 1), ("c", 0)), ((1, 2), (2, 1))
        for text in ("list(a, a)", "list(a, b)", "list(b, a)", "list(nil, nil)", "list(c, nil)", "list(nil, c)",
                     "list(a, b) * list(b, a) * list(a, a)", "empty"):
            self.part(text, store, heap, ())
        self.part("list(a, nil)", store, heap, None)
        self.part("list(c, a)", store, heap, None)

    def test_lists_that_begin_at_nil_or_lead_to_no_cell(self):
        store, heap = (("a", 1), ("b", 7), ("c", 9)), ((1, 2), (2, 7))
        self.part("list(a, b)", store, heap, heap)
        for text in ("list(nil, a)", "list(nil, b)", "list(a, nil)", "list(a, c)", "list(b, nil)", "list(b, a)",
                     "list(c, a)", "list(a, b) * list(b, nil)"):
            self.part(text, store, heap, None)

    def test_rings_and_lists_that_come_into_themselves(self):
        ring = ((1, 2), (2, 3), (3, 1))
        store = (("a", 1), ("b", 2), ("c", 3), ("z", 9))
        self.part("list(a, b) * list(b, c) * list(c, a)", store, ring, ring)
        self.part("list(a, c) * cell(c, a)", store, ring, ring)
        self.part("list(c, b) * list(b, c)", store, ring, ring)
        self.part("list(c, b)", store, ring, (ring[0], ring[2]))
        for text in ("list(a, nil)", "list(a, z)", "list(z, a)", "list(a, c) * list(b, a)", "list(a, b) * list(a, c)"):
            self.part(text, store, ring, None)
        tail = ((1, 2), (2, 3), (3, 4), (4, 2))
        store = (("a", 1), ("b", 2), ("d", 4))
        self.part("list(a, b) * list(b, d) * list(d, b)", store, tail, tail)
        self.part("list(a, d) * cell(d, b)", store, tail, tail)
        self.part("list(a, nil)", store, tail, None)
        self.part("list(d, a)", store, tail, None)

    def test_cells_left_over(self):
        store, heap = (("a", 1), ("b", 4)), ((1, 0), (4, 0), (6, 6))
        self.part("list(a, nil)", store, heap, heap[:1])
        self.part("list(a, nil) * cell(b, nil)", store, heap, heap[:2])
        self.part("empty", store, heap, ())
        self.part("a = a", store, heap, ())

    def test_part_of_with_no_cells_and_names_beside(self):
        store = (("a", 0), ("b", 5), ("result", 2), ("z", 0))
        self.part("list(a, nil)", store, (), ())
        self.part("list(a, z) * a = z", store, (), ())
        self.part("cell(b, nil)", store, (), None)
        self.part("list(b, result)", store, (), None)
        self.part("list(b, result)", store, ((5, 2),), ((5, 2),))

    def test_last_clause_alone_holds(self):
        store, heap = (("a", 1), ("b", 2)), ((1, 2), (2, 0))
        saying = read_saying("empty | list(a, b) | a = b * list(a, nil) | cell(b, nil) | list(a, nil)")
        self.assertIs(holds(saying, store, heap), True)
        self.assertIs(holds(saying[:-1], store, heap), False)
        self.assertIs(holds(saying[:1] * 63 + saying[-1:], store, heap), True)
        self.assertIs(holds(saying[:1] * 64, store, heap), False)
        self.assertIs(holds(saying[::-1], store, heap), True)

    def test_great_heaps(self):
        many = 5000
        chain = tuple((at, at + 1) for at in range(1, many)) + ((many, 0),)
        store = (("a", 1), ("b", many // 2), ("c", many))
        self.part("list(a, nil)", store, chain, chain)
        self.part("list(a, b) * list(b, c) * cell(c, nil)", store, chain, chain)
        self.part("list(b, c)", store, chain, chain[many // 2 - 1:many - 1])
        self.part("list(a, nil) * list(b, nil)", store, chain, None)
        self.part("list(c, a)", store, chain, None)
        ring = chain[:-1] + ((many, 1),)
        self.part("list(a, b) * list(b, a)", store, ring, ring)
        self.part("list(a, nil)", store, ring, None)
        turned = tuple((at, at - 1) for at in range(1, many + 1))
        self.part("list(c, nil)", store, turned, turned)
        self.part("list(c, a) * list(a, nil)", store, turned, turned)

    def test_great_addresses(self):
        far = tuple((BIG + at, BIG + at + 1) for at in range(50)) + ((BIG + 50, 0),)
        self.part("list(a, nil)", (("a", BIG),), far, far)
        self.part("list(a, b)", (("a", BIG), ("b", BIG + 7)), far, far[:7])

    def test_all_small_heaps_of_one_name(self):
        sayings = list(clauses(("x", "nil"), 2))
        for x in range(4):
            for heap in heaps((1, 2), (0, 1, 2, 3)):
                store = (("x", x),)
                for clause in sayings:
                    meant = plain_part_of(clause, store, heap)
                    self.assertEqual(part_of(clause, store, heap), meant, (clause, store, heap))
                    self.assertIs(holds((clause,), store, heap), meant == heap)

    def test_all_small_heaps_of_two_names(self):
        texts = ["empty", "list(x, y)", "cell(x, y)", "list(x, nil)", "list(x, y) * list(y, nil)",
                 "list(x, y) * list(y, x)", "x = y * list(x, nil)", "x != y * cell(x, nil) * list(y, nil)",
                 "list(x, nil) * list(y, nil)", "cell(x, y) * cell(y, x)", "cell(x, x) * list(y, x)",
                 "list(y, x) * cell(x, nil)", "cell(x, y) * list(y, x)", "list(x, y) * list(x, y)"]
        rows = [read_saying(text)[0] for text in texts]
        for x, y in itertools.product((0, 1, 2, 4), repeat=2):
            store = (("x", x), ("y", y))
            for heap in heaps((1, 2, 3), (0, 1, 2, 3, 4)):
                for clause in rows:
                    meant = plain_part_of(clause, store, heap)
                    self.assertEqual(part_of(clause, store, heap), meant, (clause, store, heap))
                    self.assertIs(holds((clause,), store, heap), meant == heap)

    def test_sayings_of_several_clauses_at_random(self):
        source = random.Random(3)
        rows = list(clauses(("x", "y", "nil"), 2))
        for _ in range(6000):
            saying = tuple(source.choice(rows) for _ in range(source.randint(1, 6)))
            store = (("x", source.randint(0, 3)), ("y", source.randint(0, 3)), ("z", source.randint(0, 3)))
            heap = tuple((at, source.randint(0, 3)) for at in (1, 2, 3) if source.randint(0, 1))
            self.assertIs(holds(saying, store, heap), plain_holds(saying, store, heap), (saying, store, heap))

    def test_a_clause_is_one_lot_of_cells_whatever_lies_beside(self):
        source = random.Random(9)
        rows = list(clauses(("x", "y", "nil"), 2))
        for _ in range(4000):
            clause, other = source.choice(rows), source.choice(rows)
            store = (("x", source.randint(0, 3)), ("y", source.randint(0, 3)))
            heap = tuple((at, source.randint(0, 5)) for at in range(1, 6) if source.randint(0, 3))
            one, two = part_of(clause, store, heap), part_of(other, store, heap)
            if one is not None:
                self.assertEqual(part_of(clause, store, one), one)
                self.assertTrue(holds((clause,), store, one))
            apart = one is not None and two is not None and not set(one) & set(two)
            both = (clause[0] + other[0], clause[1] + other[1])
            self.assertEqual(part_of(both, store, heap), tuple(sorted(one + two)) if apart else None)

    def test_other_addresses(self):
        source = random.Random(13)
        rows = list(clauses(("x", "y", "nil"), 2))
        for _ in range(2000):
            calls = dict(zip(range(1, 7), source.sample([1, 2, 3, 4, 5, 6, 7, BIG, BIG + 1, 10 ** 20], 6)))
            calls[0] = 0
            store = (("x", source.randint(0, 6)), ("y", source.randint(0, 6)))
            heap = tuple((at, source.randint(0, 6)) for at in range(1, 6) if source.randint(0, 2))
            moved = tuple((name, calls[value]) for name, value in store)
            cells = tuple(sorted((calls[at], calls[value]) for at, value in heap))
            clause = source.choice(rows)
            part = part_of(clause, store, heap)
            told = None if part is None else tuple(sorted((calls[at], calls[value]) for at, value in part))
            self.assertEqual(part_of(clause, moved, cells), told)
            self.assertEqual(lost(moved, cells), tuple(sorted(calls[at] for at in lost(store, heap))))


class Losing(unittest.TestCase):
    def test_chains_rings_and_no_names(self):
        chain, ring = ((1, 2), (2, 3), (3, 0)), ((1, 2), (2, 3), (3, 1))
        for store, heap, meant in (
            ((), (), ()), ((), chain, (1, 2, 3)), ((), ring, (1, 2, 3)), ((("x", 0),), chain, (1, 2, 3)),
            ((("x", 1),), chain, ()), ((("x", 2),), chain, (1,)), ((("x", 3),), chain, (1, 2)),
            ((("x", 4),), chain, (1, 2, 3)), ((("x", 3),), ring, ()), ((("x", 2), ("y", 1)), chain, ()),
            ((("x", 3), ("y", 2)), chain, (1,)), ((("result", 1),), chain, ()), ((("x", 5),), (), ()),
            ((("x", 9),), ((9, 9), (10, 9)), (10,)), ((("x", 9),), ((9, 10), (11, 12), (12, 11)), (11, 12)),
            ((("x", 2),), ((1, 2), (2, 7), (3, 7), (7, 0)), (1, 3)),
        ):
            self.assertEqual(lost(store, heap), meant, (store, heap))

    def test_cells_that_lead_out(self):
        self.assertEqual(lost((("x", 1),), ((1, 50), (2, 60), (60, 0))), (2, 60))
        self.assertEqual(lost((("x", 50),), ((1, 50), (2, 1))), (1, 2))

    def test_great_heaps(self):
        many = 6000
        chain = tuple((at, at + 1) for at in range(1, many)) + ((many, 0),)
        self.assertEqual(lost((("x", 1),), chain), ())
        self.assertEqual(lost((("x", many),), chain), tuple(range(1, many)))
        self.assertEqual(lost((), chain), tuple(range(1, many + 1)))
        ring = chain[:-1] + ((many, many // 2),)
        self.assertEqual(lost((("x", many),), ring), tuple(range(1, many // 2)))
        store = tuple((name, 1) for name in ("a", "b", "c", "d", "e", "result"))
        self.assertEqual(lost(store, ring), ())
        self.assertEqual(lost((("x", BIG),), ((BIG, BIG + 1), (BIG + 1, 0), (BIG + 2, BIG))), (BIG + 2,))

    def test_all_small_heaps(self):
        for heap in heaps((1, 2, 3), (0, 1, 2, 3, 4)):
            for store in [()] + [(("x", x),) for x in range(5)] + [(("x", 1), ("y", y)) for y in range(5)]:
                self.assertEqual(lost(store, heap), plain_lost(store, heap), (store, heap))

    def test_names_more_and_lost_cells_taken_out(self):
        source = random.Random(17)
        for _ in range(2000):
            heap = tuple((at, source.randint(0, 8)) for at in range(1, 8) if source.randint(0, 3))
            store = (("x", source.randint(0, 8)),)
            gone = lost(store, heap)
            self.assertLessEqual(set(lost(store + (("y", source.randint(0, 8)),), heap)), set(gone))
            for address in gone:
                left = tuple(cell for cell in heap if cell[0] != address)
                self.assertEqual(lost(store, left), tuple(other for other in gone if other != address))


class Calls(unittest.TestCase):
    """By place and by name, twice with equal answers, nothing that is handed in being changed."""

    def test_forms(self):
        for value in [*NO_TUPLES, (("x", 0),), ((1, 0),), ((1, 0), [2, 0]), (("x", [0]),), ((1, {}),), ([], {})]:
            for function in (store_error, heap_error):
                same_twice(self, function, {"value": value})
        self.assertEqual(heap_error(store_error(None)), "form")
        self.assertEqual(store_error(store_error((None,))), ("item", 0))

    def test_holds_part_of_and_lost(self):
        store, heap = (("x", 8), ("y", 3)), ((3, 5), (5, 0), (8, 3))
        saying = read_saying("x = y | list(x, nil)")
        copies = copy.deepcopy((saying, store, heap))
        self.assertIs(same_twice(self, holds, {"saying": saying, "store": store, "heap": heap}), True)
        self.assertEqual(same_twice(self, part_of, {"clause": saying[1], "store": store, "heap": heap}), heap)
        self.assertIsNone(same_twice(self, part_of, {"clause": saying[0], "store": store, "heap": heap}))
        self.assertEqual(same_twice(self, lost, {"store": store[1:], "heap": heap}), (8,))
        self.assertIs(same_twice(self, holds, {"saying": saying[:1], "store": store, "heap": heap}), False)
        self.assertEqual((saying, store, heap), copies)

    def test_what_is_told_are_heaps_and_tuples(self):
        store, heap = (("x", 1),), ((1, 2), (2, 0), (9, 9))
        part = part_of(read_saying("list(x, nil)")[0], store, heap)
        self.assertIsNone(heap_error(part))
        self.assertIs(type(part), tuple)
        self.assertIs(type(lost(store, heap)), tuple)


if __name__ == "__main__":
    unittest.main()
