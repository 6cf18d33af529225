"""Cases: cases_of, case_tells and laid_out, as A3 and C1 to C5 tell of them."""

import itertools
import random
import unittest

from examples import wrong_examples
from heldapart.bounds import MAX_CASES
from heldapart.cases import case_tells, cases_of, laid_out
from heldapart.errors import HeldError, TooMany
from heldapart.sayingtexts import read_saying
from heldapart.stores import heap_error, holds, store_error
from shapes import (
    all_cases, all_lots, case_fault, heaps, plain_tells, random_case, same_twice, stretched,
)

EXAMPLES = r"""
    >>> from heldapart.cases import case_tells, cases_of, laid_out
    >>> names, chain, bound = ("x", "y"), (((), (("list", "x", "nil"),)),), (((("isnt", "x", "y"),), (("cell", "x", "y"),)),)
    >>> aside, amid = (((), ("x",), ("y",)), ((1, "long", 0),)), (((), ("x",), ("y",)), ((1, "long", 2), (2, "long", 0)))
    >>> cases_of(names, chain)[:2] == (aside, amid), cases_of(names, chain)[2:4]
    (True, ((((), ('x', 'y')), ((1, 'long', 0),)), ((('x',), ('y',)), ())))
    >>> cases_of(names, chain)[4:]
    (((('x', 'y'),), ()), ((('y',), ('x',)), ((1, 'long', 0),)))
    >>> cases_of(names, bound)
    ((((), ('x',), ('y',)), ((1, 'short', 2),)), ((('y',), ('x',)), ((1, 'short', 0),)))
    >>> cases_of(("x",), (((), (("cell", "nil", "x"),)),)), cases_of((), (((), ()),)), cases_of(("x",), (((), (("cell", "x", "x"),)),))
    ((), ((((),), ()),), ((((), ('x',)), ((1, 'short', 1),)),))
    >>> len(cases_of(names, chain + bound)), cases_of(("x",), (((), (("list", "x", "nil"), ("cell", "x", "nil"))),))
    (8, ())
    >>> [case_tells(names, case, (("x", 5), ("y", 7)), ((5, 9), (9, 0))) for case in (aside, amid)]
    [True, False]
    >>> [case_tells(names, case, (("x", 5), ("y", 7)), ((5, 7), (7, 0))) for case in (aside, amid)], case_tells(names, aside, (("x", 5), ("y", 7)), ())
    ([False, True], False)
    >>> laid_out(names, aside), laid_out(names, amid)
    (((('x', 1), ('y', 2)), ((1, 3), (3, 0))), ((('x', 1), ('y', 2)), ((1, 3), (2, 4), (3, 2), (4, 0))))
    >>> passed = (((), ("x",), ("y",), ()), ((1, "short", 3), (3, "long", 0)))
    >>> laid_out(names, passed), case_tells(names, passed, (("x", 5), ("y", 7)), ((5, 9), (9, 0))), case_tells(names, passed, (("x", 5), ("y", 7)), ((5, 0),))
    (((('x', 1), ('y', 2)), ((1, 3), (3, 4), (4, 0))), True, False)
"""

SIX = ("a", "b", "c", "d", "e", "f")
CLAUSES = [
    "empty", "list(x, y)", "cell(x, y)", "list(x, nil)", "cell(x, nil)", "cell(x, x)", "list(x, x)", "list(nil, x)",
    "cell(nil, x)", "list(x, y) * list(y, nil)", "list(x, y) * list(y, x)", "x = y * list(x, nil)",
    "x != y * cell(x, nil) * list(y, nil)", "list(x, nil) * list(y, nil)", "cell(x, y) * cell(y, x)",
    "cell(x, x) * list(y, x)", "list(y, x) * cell(x, nil)", "cell(x, y) * list(y, x)", "list(x, y) * list(x, y)",
    "cell(x, y) * cell(x, y)", "x != x", "x = nil * y = nil", "x != nil * y != nil", "list(x, y) * list(x, nil)",
    "x = nil * list(y, x)", "y != nil * list(x, nil)", "list(x, y) * list(y, y) * list(nil, nil)", "nil != nil",
]


def clause_with(lots, parts):
    """The clause whose looks let just these lots."""
    rows = [("nil",) + lots[0]] + list(lots[1:])
    looks = [("is", row[0], name) for row in rows for name in row[1:]]
    looks += [("isnt", one[0], other[0]) for one, other in itertools.combinations(rows, 2)]
    return tuple(looks), tuple(parts)


def comes_from(case, clause):
    """Whether a case without nameless lots comes from clause by the words of C3."""
    lots, arrows = case
    spots = {"nil": 0}
    spots.update({name: spot for spot, lot in enumerate(lots) for name in lot})
    if any((spots[a] == spots[b]) != (word == "is") for word, a, b in clause[0]):
        return False
    leads = {begin: (kind, end) for begin, kind, end in arrows}
    used = []
    for word, a, b in clause[1]:
        at, end = spots[a], spots[b]
        if word == "cell":
            used.append(at)
            if leads.get(at) != ("short", end):
                return False
        gone = []
        while word == "list" and at != end:
            gone.append(at)
            if at not in leads or leads[at][0] != "long" or leads[at][1] in gone:
                return False
            at = leads[at][1]
        used += gone
    return sorted(used) == sorted(leads)


class Examples(unittest.TestCase):
    def test_examples_as_they_stand_in_the_document(self):
        self.assertEqual(wrong_examples(EXAMPLES), (13, []))


class CasesOf(unittest.TestCase):
    def cases(self, names, text):
        """All cases, looked at as C1 tells of them."""
        saying = read_saying(text) if isinstance(text, str) else text
        told = cases_of(names, saying)
        self.assertIs(type(told), tuple)
        self.assertEqual(list(told), sorted(set(told)))
        for case in told:
            self.assertIsNone(case_fault(names, case), case)
            self.assertNotIn((), case[0][1:])
        return told

    def test_saying_that_asks_nothing(self):
        for many, count in enumerate((1, 2, 5, 15, 52, 203, 877)):
            told = self.cases(SIX[:many], "empty")
            self.assertEqual(len(told), count)
            self.assertEqual(told, tuple(sorted((lots, ()) for lots in all_lots(SIX[:many]))))

    def test_no_names(self):
        empty = ((((),), ()),)
        for text in ("empty", "nil = nil", "list(nil, nil)", "empty | empty", "nil != nil | list(nil, nil)"):
            self.assertEqual(self.cases((), text), empty)
        for text in ("nil != nil", "cell(nil, nil)", "cell(nil, nil) * list(nil, nil)"):
            self.assertEqual(self.cases((), text), ())

    def test_one_name(self):
        none, some = ((("x",),), ()), (((), ("x",)), ())
        short, own = (((), ("x",)), ((1, "short", 0),)), (((), ("x",)), ((1, "short", 1),))
        long = (((), ("x",)), ((1, "long", 0),))
        for text, meant in (
            ("empty", (some, none)), ("x = nil", (none,)), ("x != nil", (some,)), ("x != x", ()),
            ("cell(x, nil)", (short,)), ("cell(x, x)", (own,)), ("list(x, nil)", (long, none)),
            ("list(x, x)", (some, none)), ("list(nil, x)", (none,)), ("cell(nil, x)", ()), ("cell(nil, nil)", ()),
            ("x = nil * cell(x, nil)", ()), ("x != nil * list(x, nil)", (long,)), ("list(nil, nil)", (some, none)),
            ("list(x, nil) * list(x, nil)", (none,)), ("cell(x, nil) * cell(x, nil)", ()),
            ("cell(x, x) * list(x, nil)", ()), ("cell(x, nil) * list(x, x)", (short,)),
            ("list(x, nil) | cell(x, nil) | list(x, nil)", (long, short, none)),
            ("x = nil | x != nil | empty", (some, none)),
        ):
            self.assertEqual(self.cases(("x",), text), meant, text)
        self.assertEqual(self.cases(("result",), "list(result, nil)"),
                         ((((), ("result",)), ((1, "long", 0),)), ((("result",),), ())))

    def test_result_stands_among_the_names_in_their_order(self):
        told = self.cases(("q", "result", "s"), "q != result * cell(result, s)")
        self.assertIn((((), ("q", "s"), ("result",)), ((2, "short", 1),)), told)
        self.assertEqual(len(told), len(self.cases(("a", "b", "c"), "a != b * cell(b, c)")))

    def test_two_parts_from_one_lot(self):
        names = ("x", "y", "z")
        self.assertEqual(self.cases(names, "x = y * cell(x, z) * cell(y, z)"), ())
        self.assertEqual(self.cases(names, "x = y * x != z * list(x, z) * list(y, z)"), ())
        self.assertEqual(self.cases(names, "x = y * x != nil * cell(x, z) * list(y, nil)"), ())
        for case in self.cases(names, "list(x, z) * list(y, z)"):
            self.assertNotIn(("x", "y"), [lot for lot in case[0][1:]])

    def test_a_list_goes_through_no_lot_twice_and_not_through_nil(self):
        lots = ((), ("w",), ("x",), ("y",), ("z",))
        told = self.cases(("w", "x", "y", "z"), (clause_with(lots, [("list", "x", "y")]),))
        rows = [arrows for found, arrows in told if found == lots]
        self.assertEqual(len(rows), len(told))
        self.assertEqual(sorted(rows), sorted([
            ((2, "long", 3),), ((1, "long", 3), (2, "long", 1)), ((2, "long", 4), (4, "long", 3)),
            ((1, "long", 4), (2, "long", 1), (4, "long", 3)), ((1, "long", 3), (2, "long", 4), (4, "long", 1)),
        ]))
        told = self.cases(("w", "x", "y", "z"), (clause_with(lots, [("list", "x", "nil")]),))
        self.assertEqual(len(told), 1 + 3 + 6 + 6)

    def test_a_list_passes_no_lot_at_which_another_part_begins(self):
        lots = ((), ("x",), ("y",), ("z",))
        told = self.cases(("x", "y", "z"), (clause_with(lots, [("list", "x", "nil"), ("cell", "y", "nil")]),))
        self.assertEqual([arrows for _, arrows in told], [
            ((1, "long", 0), (2, "short", 0)), ((1, "long", 3), (2, "short", 0), (3, "long", 0))])
        told = self.cases(("x", "y", "z"), (clause_with(lots, [("list", "x", "nil"), ("list", "y", "nil")]),))
        self.assertEqual([arrows for _, arrows in told], [
            ((1, "long", 0), (2, "long", 0)), ((1, "long", 0), (2, "long", 3), (3, "long", 0)),
            ((1, "long", 3), (2, "long", 0), (3, "long", 0))])

    def test_clauses_that_stand_twice_in_other_orders(self):
        names = ("x", "y", "z")
        once = self.cases(names, "list(x, y) * cell(z, nil) * x != z")
        self.assertEqual(self.cases(names, "x != z * cell(z, nil) * list(x, y)"), once)
        self.assertEqual(self.cases(names, " | ".join(["list(x, y) * cell(z, nil) * x != z"] * 64)), once)
        self.assertEqual(self.cases(names, "z != x * list(x, y) * cell(z, nil) | z != x * cell(z, nil) * list(x, y)"),
                         once)
        both = self.cases(names, "list(x, y) | cell(x, y)")
        self.assertEqual(both, self.cases(names, "cell(x, y) | list(x, y)"))
        self.assertEqual(both, tuple(sorted(set(self.cases(names, "list(x, y)") + self.cases(names, "cell(x, y)")))))

    def test_just_the_cases_of_the_words(self):
        source = random.Random(2)
        pools = {names: list(all_cases(names)) for names in (("x",), ("x", "y"), ("x", "y", "z"))}
        for names, pool in pools.items():
            for text in CLAUSES:
                if set(read_names(text)) <= set(names):
                    clause = read_saying(text)[0]
                    meant = tuple(sorted(case for case in pool if comes_from(case, clause)))
                    self.assertEqual(self.cases(names, text), meant, (names, text))
        terms = ("x", "y", "z", "nil")
        for _ in range(150):
            clause = random_clause(source, terms)
            other = random_clause(source, terms)
            pool = pools["x", "y", "z"]
            meant = tuple(sorted(case for case in pool if comes_from(case, clause) or comes_from(case, other)))
            self.assertEqual(self.cases(("x", "y", "z"), (clause, other)), meant, (clause, other))

    def test_holds_just_where_one_case_tells_over_one_name(self):
        sayings = [read_saying(text) for text in CLAUSES if set(read_names(text)) <= {"x"}]
        sayings += [one + other for one, other in itertools.combinations(sayings, 2)]
        rows = [(saying, cases_of(("x",), saying)) for saying in sayings]
        for x in range(5):
            for heap in heaps((1, 2, 3), (0, 1, 2, 3, 4)):
                store = (("x", x),)
                for saying, cases in rows:
                    many = sum(case_tells(("x",), case, store, heap) for case in cases)
                    self.assertEqual(many > 0, holds(saying, store, heap), (saying, store, heap))

    def test_holds_just_where_one_case_tells_over_two_names(self):
        rows = [(read_saying(text), cases_of(("x", "y"), read_saying(text))) for text in CLAUSES]
        for x, y in itertools.product(range(4), repeat=2):
            for heap in heaps((1, 2, 3), (0, 1, 2, 3)):
                store = (("x", x), ("y", y))
                for saying, cases in rows:
                    many = sum(case_tells(("x", "y"), case, store, heap) for case in cases)
                    self.assertEqual(many, int(holds(saying, store, heap)), (saying, store, heap))

    def test_numbers_over_six_names(self):
        self.assertEqual(len(self.cases(SIX, "list(a, nil)")), 5708)
        self.assertEqual(len(self.cases(SIX, "list(a, b)")), 2182)

    def test_too_many(self):
        lists, cells = ((), (("list", "a", "nil"),)), (("cell", "c", "nil"),)
        rows = [((), (("cell", "a", "nil"), ("list", "b", "nil"))), ((), (("cell", "b", "nil"),)),
                ((), (("cell", "a", "nil"), ("cell", "b", "nil")))]
        saying = (lists,) + tuple(rows)
        many = len(cases_of(SIX, saying))
        self.assertLess(many, MAX_CASES)
        # Where b and c are one lot the second row has the case already.
        singles = [clause_with(lots, cells) for lots, _ in cases_of(SIX, (((("isnt", "b", "c"),), cells),))]
        left = MAX_CASES - many
        self.assertLess(left, 60)
        self.assertEqual(MAX_CASES, 8192)
        full = saying + tuple(singles[:left])
        self.assertEqual(len(self.cases(SIX, saying + tuple(singles[:left - 1]))), 8191)
        self.assertEqual(len(self.cases(SIX, full)), 8192)
        self.assertEqual(len(self.cases(SIX, full[::-1])), 8192)
        self.assertEqual(len(self.cases(SIX, full + (lists, rows[2], lists))), 8192)
        for over in (full + (singles[left],), (singles[left],) + full, full[::-1] + (singles[left + 3],),
                     (lists, rows[0], ((), (("list", "b", "nil"),))), (lists, ((), (("list", "b", "nil"),)))):
            with self.assertRaises(TooMany) as caught:
                cases_of(SIX, over)
            self.assertEqual((type(caught.exception), caught.exception.limit), (TooMany, 8192))
            self.assertIsInstance(caught.exception, HeldError)
        self.assertEqual(len(self.cases(SIX, full)), 8192)

    def test_no_two_unlike_cases_tell_of_one_heap(self):
        source = random.Random(21)
        pool = list(all_cases(("x", "y")))
        for case in pool:
            for _ in range(4):
                store, heap = stretched(case, ("x", "y"), source)
                told = [other for other in pool if case_tells(("x", "y"), other, store, heap)]
                self.assertIn(case, told)
                for other in told:
                    self.assertEqual(other[0], case[0])
                    self.assertEqual([(begin, end) for begin, _, end in other[1]],
                                     [(begin, end) for begin, _, end in case[1]])


def read_names(text):
    return [name for name in ("x", "y", "z") if name in text.replace("empty", "")]


def random_clause(source, terms):
    looks = tuple((source.choice(("is", "isnt")), source.choice(terms), source.choice(terms))
                  for _ in range(source.randint(0, 2)))
    parts = tuple((source.choice(("cell", "list", "list")), source.choice(terms), source.choice(terms))
                  for _ in range(source.randint(0, 3)))
    return looks, parts


class Telling(unittest.TestCase):
    def tells(self, names, case, store, heap, meant):
        self.assertIsNone(case_fault(names, case), case)
        self.assertIs(case_tells(names, case, store, heap), meant, (case, store, heap))

    def test_values_of_names(self):
        case = (("a",), ("b", "c"), ("d",)), ()
        names = ("a", "b", "c", "d")
        for values, meant in (((0, 5, 5, 6), True), ((0, 1, 1, 2), True), ((1, 5, 5, 6), False), ((0, 5, 7, 6), False),
                              ((0, 5, 5, 5), False), ((0, 0, 0, 6), False), ((0, 5, 5, 0), False), ((0, 5, 0, 6), False),
                              ((5, 5, 5, 6), False), ((0, 10 ** 300, 10 ** 300, 6), True)):
            store = tuple(zip(names, values))
            self.tells(names, case, store, (), meant)
            self.tells(names, case, store, ((5, 0),), False)
            self.tells(names, case, store, ((99, 0),), False)

    def test_short_and_long_arrows(self):
        names, store = ("x", "y"), (("x", 5), ("y", 7))
        lots = ((), ("x",), ("y",))
        for arrows, heap, meant in (
            (((1, "short", 2),), ((5, 7),), True), (((1, "short", 2),), ((5, 6), (6, 7)), False),
            (((1, "long", 2),), ((5, 7),), True), (((1, "long", 2),), ((5, 6), (6, 7)), True),
            (((1, "long", 2),), ((4, 7), (5, 6), (6, 4)), True), (((1, "long", 2),), (), False),
            (((1, "long", 2),), ((5, 0),), False), (((1, "long", 2),), ((5, 6),), False),
            (((1, "long", 2),), ((5, 5),), False), (((1, "long", 2),), ((5, 6), (6, 5)), False),
            (((1, "long", 2),), ((5, 6), (6, 6)), False), (((1, "long", 2),), ((5, 7), (7, 0)), False),
            (((1, "long", 2),), ((5, 7), (9, 0)), False), (((1, "short", 1),), ((5, 5),), True),
            (((1, "short", 1),), ((5, 6), (6, 5)), False), (((1, "short", 1),), ((5, 7),), False),
            (((1, "short", 0), (2, "short", 0)), ((5, 0), (7, 0)), True),
            (((1, "long", 0), (2, "long", 0)), ((5, 0), (7, 0)), True),
            (((1, "long", 0), (2, "long", 0)), ((5, 6), (6, 0), (7, 6)), False),
            (((1, "long", 0), (2, "long", 0)), ((5, 7), (7, 0)), False),
            (((1, "long", 2), (2, "long", 0)), ((5, 7), (7, 0)), True),
            (((1, "long", 2), (2, "long", 1)), ((5, 7), (7, 5)), True),
            (((1, "long", 2), (2, "long", 1)), ((5, 6), (6, 7), (7, 8), (8, 5)), True),
            (((1, "short", 2), (2, "long", 1)), ((5, 6), (6, 7), (7, 5)), False),
            (((1, "long", 2), (2, "short", 1)), ((5, 6), (6, 7), (7, 5)), True),
            (((1, "long", 0),), ((5, 7), (7, 0)), False),
            ((), (), True), ((), ((5, 0),), False), ((), ((1, 0),), False),
        ):
            self.tells(names, (lots, arrows), store, heap, meant)

    def test_nameless_lots(self):
        names, store = ("x",), (("x", 5),)
        for lots, arrows, heap, meant in (
            (3, ((1, "short", 2),), ((5, 9),), True), (3, ((1, "short", 2),), ((5, 0),), False),
            (3, ((1, "short", 2),), ((5, 5),), False), (3, ((1, "short", 2),), ((5, 9), (9, 0)), False),
            (3, ((1, "long", 2),), ((5, 9), (9, 8)), True), (3, ((1, "long", 2),), ((5, 9), (9, 0)), False),
            (3, ((1, "short", 2), (2, "short", 0)), ((5, 9), (9, 0)), True),
            (3, ((1, "short", 2), (2, "long", 0)), ((5, 9), (8, 0), (9, 8)), True),
            (3, ((1, "long", 2), (2, "short", 0)), ((5, 9), (8, 0), (9, 8)), True),
            (3, ((1, "short", 2), (2, "short", 0)), ((5, 9), (8, 0), (9, 8)), False),
            (3, ((1, "long", 2), (2, "long", 0)), ((5, 0),), False),
            (3, ((1, "long", 2), (2, "long", 0)), ((5, 7), (7, 0)), True),
            (4, ((1, "long", 2), (2, "long", 3), (3, "long", 0)), ((5, 7), (7, 0)), False),
            (4, ((1, "long", 2), (2, "long", 3), (3, "long", 0)), ((5, 7), (6, 0), (7, 6)), True),
            (4, ((1, "short", 2), (2, "short", 3), (3, "short", 2)), ((5, 7), (6, 7), (7, 6)), True),
            (4, ((1, "short", 2), (2, "short", 3), (3, "short", 2)), ((5, 7), (6, 5), (7, 6)), False),
            (3, ((1, "short", 2), (2, "short", 2)), ((5, 7), (7, 7)), True),
            (3, ((1, "long", 2), (2, "short", 2)), ((5, 6), (6, 7), (7, 7)), True),
            (3, ((1, "short", 2), (2, "short", 2)), ((5, 6), (6, 7), (7, 7)), False),
            (3, ((1, "short", 2), (2, "short", 1)), ((5, 6), (6, 5)), True),
            (3, ((1, "short", 2), (2, "long", 1)), ((5, 6), (6, 7), (7, 5)), True),
        ):
            self.tells(names, (((), ("x",)) + ((),) * (lots - 2), arrows), store, heap, meant)

    def test_lists_that_meet(self):
        names, store = ("x", "y"), (("x", 5), ("y", 7))
        lots = ((), ("x",), ("y",), ())
        for arrows, heap, meant in (
            (((1, "short", 3), (2, "short", 3), (3, "long", 0)), ((5, 9), (7, 9), (9, 0)), True),
            (((1, "long", 3), (2, "long", 3), (3, "long", 0)), ((5, 6), (6, 9), (7, 9), (9, 1), (1, 0)), True),
            (((1, "short", 3), (2, "long", 3), (3, "long", 0)), ((5, 6), (6, 9), (7, 9), (9, 0)), False),
            (((1, "long", 3), (2, "long", 3), (3, "long", 0)), ((5, 6), (6, 0), (7, 9), (9, 0)), False),
            (((1, "long", 3), (2, "long", 3)), ((5, 6), (7, 6)), True),
            (((1, "long", 3), (2, "long", 3)), ((5, 6), (7, 8)), False),
            (((1, "long", 3), (2, "long", 3)), ((5, 6), (6, 0), (7, 6)), False),
            (((1, "long", 3), (2, "long", 3)), ((5, 0), (7, 0)), False),
            (((1, "long", 3), (2, "long", 3), (3, "short", 3)), ((5, 6), (6, 6), (7, 6)), True),
        ):
            self.tells(names, (lots, arrows), store, tuple(sorted(heap)), meant)
        apart = (((), ("x",), ("y",), (), ()), ((1, "short", 3), (2, "short", 4)))
        self.tells(names, apart, store, ((5, 8), (7, 9)), True)
        self.tells(names, apart, store, ((5, 9), (7, 8)), True)
        self.tells(names, apart, store, ((5, 9), (7, 9)), False)
        self.tells(names, apart, store, ((5, 7), (7, 9)), False)

    def test_great_heaps(self):
        many = 4000
        chain = tuple((at, at + 1) for at in range(1, many)) + ((many, 0),)
        names, far = ("x", "y"), (("x", 1), ("y", many // 3))
        aside, amid = (((), ("x",), ("y",)), ((1, "long", 0),)), (((), ("x",), ("y",)), ((1, "long", 2), (2, "long", 0)))
        self.tells(names, amid, far, chain, True)
        self.tells(names, aside, far, chain, False)
        self.tells(names, aside, (("x", 1), ("y", many + 1)), chain, True)
        self.tells(names, amid, (("x", 1), ("y", many + 1)), chain, False)
        self.tells(names, aside, (("x", 1), ("y", many + 1)), chain[:-1], False)
        self.tells(names, aside, (("x", 1), ("y", many + 1)), chain[:-1] + ((many, many // 2),), False)
        row = (((), ("x",), ("y",)) + ((),) * 3,
               ((1, "long", 3), (3, "long", 4), (4, "short", 5), (5, "long", 0)))
        self.tells(names, row, (("x", 1), ("y", many + 1)), chain, True)
        self.tells(names, row, far, chain, False)
        ring = chain[:-1] + ((many, 1),)
        self.tells(names, (((), ("x",), ("y",)), ((1, "long", 2), (2, "long", 1))), far, ring, True)
        self.tells(names, amid, far, ring, False)
        loop = (((), ("x",), ("y",), ()), ((1, "long", 3), (3, "long", 2), (2, "long", 3)))
        loop = loop[0], tuple(sorted(loop[1]))
        self.tells(names, loop, (("x", 1), ("y", many)), chain[:-1] + ((many, 50),), True)
        self.tells(names, loop, (("x", 1), ("y", 50)), chain[:-1] + ((many, 50),), False)

    def test_a_thousand_nameless_lots(self):
        many = 1500
        lots = ((), ("x",)) + ((),) * (many - 1)
        case = (lots, tuple((at, "short", at + 1) for at in range(1, many)) + ((many, "short", 0),))
        store, heap = laid_out(("x",), case)
        self.assertEqual(heap, tuple((at, at + 1) for at in range(1, many)) + ((many, 0),))
        self.tells(("x",), case, store, heap, True)
        self.tells(("x",), case, store, heap[:-1] + ((many, many + 1), (many + 1, 0)), False)
        case = (lots, case[1][:700] + ((701, "long", 702),) + case[1][701:])
        self.tells(("x",), case, store, heap[:-1] + ((many, many + 1), (many + 1, 0)), True)
        self.tells(("x",), case, store, heap[:-2] + ((many - 1, 0),), False)

    def test_all_cases_of_two_names_over_all_small_heaps(self):
        names = ("x", "y")
        source = random.Random(1)
        pool = list(all_cases(names)) + [random_case(names, source, 2) for _ in range(60)]
        for x, y in ((0, 1), (1, 1), (1, 2), (2, 4), (0, 0), (3, 1)):
            for heap in heaps((1, 2, 3), (0, 1, 2, 3, 5)):
                for case in source.sample(pool, 12):
                    store = (("x", x), ("y", y))
                    self.tells(names, case, store, heap, plain_tells(case, store, heap))

    def test_random_cases_with_nameless_lots(self):
        source = random.Random(4)
        for _ in range(3000):
            names = ("a", "b", "c")[:source.randint(0, 3)]
            case = random_case(names, source, 4)
            store, heap = stretched(case, names, source)
            self.tells(names, case, store, heap, True)
            if len(case[0]) < 6 and len(heap) < 9:
                self.tells(names, case, store, heap[1:], plain_tells(case, store, heap[1:]))
            other = random_case(names, source, 4)
            if len(other[0]) < 6 and len(heap) < 9:
                self.tells(names, other, store, heap, plain_tells(other, store, heap))
            turned = list(heap)
            if turned:
                at = source.randrange(len(turned))
                turned[at] = (turned[at][0], source.choice([0, 1000] + [address for address, _ in heap]))
                if len(case[0]) < 6 and len(heap) < 9:
                    self.tells(names, case, store, tuple(turned), plain_tells(case, store, tuple(turned)))


class Laying(unittest.TestCase):
    def test_case_tells_of_what_it_is_laid_out_as(self):
        source = random.Random(6)
        rows = [(("x", "y"), case) for case in all_cases(("x", "y"))]
        rows += [(("a", "b", "c"), random_case(("a", "b", "c"), source, 5)) for _ in range(2000)]
        for names, case in rows:
            store, heap = laid_out(names, case)
            self.assertIsNone(store_error(store))
            self.assertIsNone(heap_error(heap))
            self.assertEqual(tuple(name for name, _ in store), names)
            self.assertIs(case_tells(names, case, store, heap), True, case)
            self.assertEqual(store, tuple((name, spot) for name in names
                                          for spot, lot in enumerate(case[0]) if name in lot))
            longs = [arrow for arrow in case[1] if arrow[1] == "long"]
            cells = dict(heap)
            self.assertEqual(len(heap), len(case[1]) + len(longs))
            for begin, kind, end in case[1]:
                if kind == "short":
                    self.assertEqual(cells[begin], end)
            for at, (begin, _, end) in enumerate(longs):
                self.assertEqual((cells[begin], cells[len(case[0]) + at]), (len(case[0]) + at, end))

    def test_no_arrows(self):
        self.assertEqual(laid_out((), (((),), ())), ((), ()))
        self.assertEqual(laid_out(("a", "b", "c"), ((("b",), ("a", "c")), ())), ((("a", 1), ("b", 0), ("c", 1)), ()))

    def test_cases_of_a_saying_are_laid_out_where_it_holds(self):
        names = ("x", "y", "z")
        for text in CLAUSES:
            saying = read_saying(text)
            told = cases_of(names, saying)
            for case in told:
                store, heap = laid_out(names, case)
                self.assertTrue(holds(saying, store, heap), (text, case))
                self.assertEqual([other for other in told if case_tells(names, other, store, heap)], [case])


class Calls(unittest.TestCase):
    def test_by_place_and_by_name_twice(self):
        names, saying = ("x", "y"), read_saying("list(x, nil) | x != y * cell(x, y)")
        told = same_twice(self, cases_of, {"names": names, "saying": saying})
        self.assertEqual(len(told), 8)
        for case in told:
            store, heap = same_twice(self, laid_out, {"names": names, "case": case})
            self.assertIs(same_twice(self, case_tells, {"names": names, "case": case, "store": store, "heap": heap}), True)
            heap = heap + ((50, 0),)
            self.assertIs(same_twice(self, case_tells, {"names": names, "case": case, "store": store, "heap": heap}), False)

    def test_too_many_twice(self):
        saying = read_saying("list(a, nil) | list(b, nil)")
        for _ in (0, 1):
            for call in (lambda: cases_of(SIX, saying), lambda: cases_of(saying=saying, names=SIX)):
                with self.assertRaises(TooMany) as caught:
                    call()
                self.assertEqual(caught.exception.limit, 8192)


if __name__ == "__main__":
    unittest.main()
