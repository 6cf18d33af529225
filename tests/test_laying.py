"""What follows: is_laid, follows and parting, as A3 and D1 to D5 tell of them."""

import random
import unittest

from examples import wrong_examples
from heldapart.cases import cases_of, laid_out
from heldapart.errors import TooMany
from heldapart.laying import follows, is_laid, parting
from heldapart.sayingtexts import read_saying
from heldapart.stores import heap_error, holds, store_error
from shapes import all_cases, clauses, heaps, random_case, same_twice, stretched

EXAMPLES = r"""
    >>> from heldapart.laying import follows, is_laid, parting
    >>> amid = (((), ("x",), ("y",)), ((1, "long", 2), (2, "long", 0)))
    >>> [is_laid(amid, ((), parts)) for parts in ((("list", "x", "nil"),), (("list", "x", "y"), ("list", "y", "nil")), (("list", "y", "nil"), ("list", "x", "y")), (("list", "x", "y"),), (("cell", "x", "y"), ("list", "y", "nil")))]
    [True, True, True, False, False]
    >>> [is_laid(amid, (looks, (("list", "x", "nil"),))) for looks in ((("isnt", "x", "y"),), (("is", "x", "y"),), (("isnt", "x", "nil"), ("isnt", "nil", "y")))]
    [True, False, True]
    >>> ring = (((), ("x",), ("y",)), ((1, "short", 2), (2, "long", 1)))
    >>> [is_laid(ring, ((), parts)) for parts in ((("cell", "x", "y"), ("list", "y", "x")), (("list", "x", "y"), ("list", "y", "x")), (("list", "x", "nil"),), (("list", "x", "x"),), (("list", "x", "x"), ("list", "x", "y"), ("list", "y", "x")))]
    [True, True, False, False, True]
    >>> two, names = (((), (("list", "x", "y"), ("list", "y", "nil"))),), ("x", "y")
    >>> chain, loop = (((), (("list", "x", "nil"),)),), (((), (("list", "x", "y"), ("list", "y", "z"))),)
    >>> follows(names, two, chain), follows(names, chain, two), parting(names, two, chain)
    (True, False, None)
    >>> from heldapart.stores import holds
    >>> store, heap = parting(names, chain, two)
    >>> holds(chain, store, heap), holds(two, store, heap), parting(names, chain, two)
    (True, False, ((('x', 1), ('y', 2)), ((1, 3), (3, 0))))
    >>> follows(("x", "y", "z"), loop, (((), (("list", "x", "z"),)),)), follows(("x", "y", "z"), (((("is", "z", "nil"),), loop[0][1]),), (((), (("list", "x", "z"),)),))
    (False, True)
    >>> follows(("x",), (((), (("cell", "x", "nil"),)),), chain), follows(("x",), chain, (((), (("cell", "x", "nil"),)),)), follows(("x",), chain, (((("is", "x", "nil"),), ()), ((("isnt", "x", "nil"),), (("list", "x", "nil"),))))
    (True, False, True)
    >>> follows(("x",), (((("isnt", "x", "x"),), ()),), (((), (("cell", "x", "x"),)),)), follows((), (((), ()),), (((), ()),))
    (True, True)
"""

SIX = ("a", "b", "c", "d", "e", "f")
CLAUSES = [
    "empty", "list(x, y)", "cell(x, y)", "list(x, nil)", "cell(x, nil)", "cell(x, x)", "list(x, x)", "list(nil, x)",
    "cell(nil, x)", "list(x, y) * list(y, nil)", "list(x, y) * list(y, x)", "x = y * list(x, nil)",
    "x != y * cell(x, nil) * list(y, nil)", "list(x, nil) * list(y, nil)", "cell(x, y) * cell(y, x)",
    "cell(x, y) * list(y, nil)", "cell(x, y) * list(y, x)", "list(x, y) * list(x, y)", "x != x", "x = nil * y = nil",
    "x != nil * list(x, nil)", "x = nil | x != nil * list(x, nil)", "list(x, nil) | list(y, nil)",
    "x = y | x != y", "list(x, y) * cell(y, nil)", "x = y * cell(x, nil) | list(y, x)",
]


class Examples(unittest.TestCase):
    def test_examples_as_they_stand_in_the_document(self):
        self.assertEqual(wrong_examples(EXAMPLES), (15, []))


class IsLaid(unittest.TestCase):
    def laid(self, case, text, meant):
        self.assertIs(is_laid(case, read_saying(text)[0]), meant, (case, text))

    def test_looks_by_lots(self):
        case = ((("a",), ("b", "c"), ("d",)), ())
        for text, meant in (("a = nil", True), ("nil = a", True), ("a != nil", False), ("b = c", True),
                            ("b != c", False), ("b = d", False), ("c != d", True), ("b != nil", True),
                            ("d = nil", False), ("nil = nil", True), ("nil != nil", False), ("d = d", True),
                            ("b = c * c != d", True), ("b = c * c = d", False), ("empty", True),
                            ("list(b, c)", True), ("list(a, nil)", True), ("list(b, d)", False), ("cell(b, c)", False),
                            ("cell(a, nil)", False), ("b = c * list(c, b) * list(nil, a)", True)):
            self.laid(case, text, meant)

    def test_each_arrow_is_used_just_once(self):
        case = (((), ("x",), ("y",), ("z",)), ((1, "short", 2), (2, "long", 3), (3, "short", 0)))
        for text, meant in (
            ("list(x, nil)", True), ("cell(x, y) * list(y, nil)", True), ("list(x, y) * list(y, z) * list(z, nil)", True),
            ("list(x, z) * cell(z, nil)", True), ("cell(z, nil) * list(y, z) * cell(x, y)", True),
            ("cell(x, y) * cell(y, z) * cell(z, nil)", False), ("list(x, y)", False), ("list(y, nil)", False),
            ("list(x, nil) * list(y, nil)", False), ("list(x, nil) * cell(z, nil)", False), ("empty", False),
            ("list(x, y) * cell(x, y) * list(y, nil)", False), ("cell(x, z) * list(z, nil)", False),
            ("cell(x, y) * cell(x, y) * list(y, nil)", False), ("list(x, nil) * list(z, z)", True),
            ("list(z, x)", False), ("list(nil, x)", False), ("cell(nil, x)", False), ("list(x, nil) * x != y", True),
            ("list(x, nil) * x = y", False),
        ):
            self.laid(case, text, meant)

    def test_rings(self):
        ring = (((), ("x",), ("y",)), ((1, "long", 2), (2, "long", 1)))
        for text, meant in (("list(x, y) * list(y, x)", True), ("list(x, x)", False), ("list(x, nil)", False),
                            ("list(x, y)", False), ("list(x, nil) * list(y, nil)", False), ("list(y, y)", False)):
            self.laid(ring, text, meant)
        own = (((), ("x", "y")), ((1, "short", 1),))
        for text, meant in (("cell(x, x)", True), ("cell(x, y)", True), ("list(x, y)", False), ("list(x, nil)", False),
                            ("cell(x, y) * list(y, x)", True), ("cell(x, y) * cell(y, x)", False)):
            self.laid(own, text, meant)
        into = (((), ("x",), ("y",)), ((1, "long", 2), (2, "short", 2)))
        self.laid(into, "list(x, y) * cell(y, y)", True)
        self.laid(into, "list(x, nil)", False)

    def test_nameless_lots(self):
        case = (((), ("x",), ("y",), ()), ((1, "short", 3), (3, "long", 2)))
        for text, meant in (("list(x, y)", True), ("cell(x, y)", False), ("list(x, nil)", False), ("empty", False),
                            ("list(x, y) * list(y, x)", False), ("list(x, y) * list(y, y)", True)):
            self.laid(case, text, meant)
        out = (((), ("x",), ()), ((1, "long", 2),))
        for text in ("list(x, nil)", "cell(x, nil)", "cell(x, x)", "list(x, x)", "empty"):
            self.laid(out, text, False)
        ring = (((), ("x",), ()), ((1, "short", 2), (2, "long", 1)))
        self.laid(ring, "list(x, nil)", False)

    def test_laid_just_where_it_holds_of_what_is_laid_out(self):
        source = random.Random(8)
        rows = list(clauses(("x", "y", "nil"), 2))
        pool = [case for case in all_cases(("x", "y"))]
        pool += [random_case(("x", "y"), source, 4) for _ in range(200)]
        for case in pool:
            store, heap = laid_out(("x", "y"), case)
            far = stretched(case, ("x", "y"), source)
            for clause in source.sample(rows, 80) + [read_saying(text)[0] for text in CLAUSES]:
                told = is_laid(case, clause)
                self.assertIs(told, holds((clause,), store, heap), (case, clause))
                if told:
                    self.assertTrue(holds((clause,), *far))

    def test_cases_of_a_clause_let_it_be_laid(self):
        source = random.Random(12)
        rows = list(clauses(("x", "y", "z", "nil"), 2))
        for clause in source.sample(rows, 200):
            for case in cases_of(("x", "y", "z"), (clause,)):
                self.assertIs(is_laid(case, clause), True)
                self.assertIs(is_laid(case, (clause[0][::-1], clause[1][::-1])), True)


class Following(unittest.TestCase):
    def looked_at(self, names, left, right):
        """follows and parting agree, and what parts them does; whether right follows."""
        told = parting(names, left, right)
        self.assertIs(follows(names, left, right), told is None)
        if told is not None:
            store, heap = told
            self.assertIs(type(told), tuple)
            self.assertIsNone(store_error(store))
            self.assertIsNone(heap_error(heap))
            self.assertEqual(tuple(name for name, _ in store), names)
            self.assertTrue(holds(left, store, heap))
            self.assertFalse(holds(right, store, heap))
            firsts = [case for case in cases_of(names, left)
                      if not any([is_laid(case, clause) for clause in right])]
            self.assertEqual(told, laid_out(names, firsts[0]))
        return told is None

    def told(self, names, left, right, meant):
        self.assertIs(self.looked_at(names, read_saying(left), read_saying(right)), meant, (left, right))

    def test_texts(self):
        for names, left, right, meant in (
            (("x",), "cell(x, nil)", "list(x, nil)", True),
            (("x",), "list(x, nil)", "cell(x, nil)", False),
            (("x",), "list(x, nil)", "empty | list(x, nil)", True),
            (("x",), "x = nil", "list(x, nil)", True),
            (("x",), "empty", "list(x, nil)", False),
            (("x",), "empty", "x = nil | x != nil", True),
            (("x",), "list(nil, nil)", "list(x, x)", True),
            (("x",), "cell(x, x)", "list(x, x)", False),
            (("x",), "cell(nil, x)", "x != x", True),
            (("x",), "x != nil", "x = nil", False),
            (("x", "y"), "x = y * cell(x, nil)", "cell(y, nil)", True),
            (("x", "y"), "cell(x, y) * list(y, nil)", "list(x, nil)", True),
            (("x", "y"), "list(x, y) * list(y, nil)", "list(x, nil)", True),
            (("x", "y"), "list(x, y) * cell(y, nil)", "y != nil * list(x, nil)", True),
            (("x", "y"), "list(x, nil)", "list(x, y) * list(y, nil)", False),
            (("x", "y"), "list(x, nil) * list(y, nil)", "list(y, nil) * list(x, nil)", True),
            (("x", "y"), "list(x, nil) * list(y, nil)", "x != y * list(y, nil) * list(x, nil)", False),
            (("x", "y"), "x != nil * list(x, nil) * list(y, nil)", "x != y * list(y, nil) * list(x, nil)", True),
            (("x", "y"), "list(x, y) * list(y, x)", "list(x, x)", False),
            (("x", "y"), "cell(x, y) * cell(y, x)", "list(x, y) * list(y, x)", True),
            (("x", "y"), "cell(x, y)", "x != nil", False),
            (("x", "y"), "cell(x, y)", "x != nil * cell(x, y)", True),
            (("x", "y"), "list(x, y)", "x = y | x != y * list(x, y)", True),
            (("x", "y"), "list(x, y)", "cell(x, y)", False),
            (("x", "y"), "list(x, y)", "cell(x, y) | x = y", False),
            (("x", "y", "z"), "list(x, y) * list(y, z)", "list(x, z)", False),
            (("x", "y", "z"), "list(x, y) * list(y, z) * cell(z, nil)", "list(x, z) * list(z, nil)", True),
            (("x", "y", "z"), "list(x, y) * cell(y, z)", "list(x, z)", False),
            (("x", "y", "z"), "x != z * cell(x, y) * cell(y, z)", "list(x, z)", False),
            (("x", "y", "z"), "x != z * y != z * cell(x, y) * cell(y, z)", "list(x, z)", True),
            (("x", "y", "z"), "cell(x, y) * cell(y, z)", "list(x, z)", False),
            ((), "empty", "nil = nil", True), ((), "empty", "nil != nil", False), ((), "nil != nil", "empty", True),
            (("result",), "list(result, nil)", "result = nil | list(result, nil)", True),
        ):
            self.told(names, left, right, meant)

    def test_first_case_is_told(self):
        self.assertEqual(parting(("x",), read_saying("empty"), read_saying("x = nil")), ((("x", 1),), ()))
        self.assertEqual(parting(("x",), read_saying("empty"), read_saying("x != nil")), ((("x", 0),), ()))
        self.assertEqual(parting(("x",), read_saying("empty"), read_saying("x != x")), ((("x", 1),), ()))
        self.assertEqual(parting((), read_saying("empty"), read_saying("nil != nil")), ((), ()))
        self.assertEqual(parting(("x",), read_saying("list(x, nil) | cell(x, x)"), read_saying("cell(x, x)")),
                         ((("x", 1),), ((1, 2), (2, 0))))

    def test_small_heaps_agree(self):
        sayings = [read_saying(text) for text in CLAUSES]
        stores = [(("x", x), ("y", y)) for x, y in ((0, 0), (0, 1), (1, 0), (1, 1), (1, 2), (1, 5), (2, 1))]
        rows = [[holds(saying, store, heap) for store in stores for heap in heaps((1, 2, 3), (0, 1, 2, 3))]
                for saying in sayings]
        for at, left in enumerate(sayings):
            for to, right in enumerate(sayings):
                if self.looked_at(("x", "y"), left, right):
                    self.assertFalse([1 for one, other in zip(rows[at], rows[to]) if one and not other], (at, to))

    def test_orders_of_sayings(self):
        sayings = [read_saying(text) for text in CLAUSES]
        names = ("x", "y")
        table = [[follows(names, left, right) for right in sayings] for left in sayings]
        for at, left in enumerate(sayings):
            self.assertTrue(table[at][at])
            for to, right in enumerate(sayings):
                self.assertTrue(follows(names, left, left + right))
                self.assertTrue(follows(names, left, right + left))
                self.assertEqual(follows(names, left + right, right), table[at][to])
                self.assertEqual(follows(("x", "y", "z"), left, right), table[at][to])
                self.assertEqual(follows(("result", "x", "y"), left, right), table[at][to])
                for third in range(len(sayings)):
                    if table[at][to] and table[to][third]:
                        self.assertTrue(table[at][third])

    def test_looks_and_parts_in_another_order(self):
        source = random.Random(14)
        rows = list(clauses(("x", "y", "z", "nil"), 2))
        for _ in range(100):
            one, other = source.choice(rows), source.choice(rows)
            both = (one[0] + other[0], one[1] + other[1])
            turned = (other[0] + one[0], other[1] + one[1])
            self.assertTrue(self.looked_at(("x", "y", "z"), (both,), (turned,)))
            self.assertTrue(self.looked_at(("x", "y", "z"), (turned,), (both,)))

    def test_fewer_names(self):
        self.told(SIX, "a = b * c != d", "c != d * b = a", True)
        for names in (("x",), ("w", "x"), ("v", "w", "x")):
            self.told(names, "cell(x, nil)", "list(x, nil)", True)
            self.told(names, "list(x, nil)", "cell(x, nil)", False)

    def test_random_sayings(self):
        source = random.Random(15)
        rows = list(clauses(("x", "y", "z", "nil"), 2))
        both = [0, 0]
        for _ in range(400):
            left = tuple(source.choice(rows) for _ in range(source.randint(1, 2)))
            right = tuple(source.choice(rows) for _ in range(source.randint(1, 3)))
            both[self.looked_at(("x", "y", "z"), left, right + left[:source.randint(0, 1)])] += 1
        self.assertGreater(min(both), 50)

    def test_too_many(self):
        many, few = read_saying("list(a, nil) | list(b, nil)"), read_saying("list(a, nil)")
        for right in (many, few, read_saying("empty"), read_saying("a != a")):
            for call in (follows, parting):
                with self.assertRaises(TooMany) as caught:
                    call(SIX, many, right)
                self.assertEqual(caught.exception.limit, 8192)
        self.assertTrue(follows(SIX, few, many))
        self.assertIsNone(parting(SIX, few, few))
        self.assertFalse(follows(SIX, few, read_saying("list(b, nil)")))
        self.assertTrue(follows(SIX[:5], many, many))


class Calls(unittest.TestCase):
    def test_by_place_and_by_name_twice(self):
        names = ("x", "y")
        one, other = read_saying("list(x, y) * list(y, nil)"), read_saying("x != x | list(x, nil)")
        case = cases_of(names, one)[1]
        self.assertIs(same_twice(self, is_laid, {"case": case, "clause": one[0]}), True)
        self.assertIs(same_twice(self, is_laid, {"case": case, "clause": other[0]}), False)
        self.assertIs(same_twice(self, follows, {"names": names, "left": one, "right": other}), True)
        self.assertIsNone(same_twice(self, parting, {"names": names, "left": one, "right": other}))
        self.assertIs(same_twice(self, follows, {"names": names, "left": other, "right": one}), False)
        told = same_twice(self, parting, {"names": names, "left": other, "right": one})
        self.assertEqual(told, ((("x", 1), ("y", 2)), ((1, 3), (3, 0))))


if __name__ == "__main__":
    unittest.main()
