"""Steps on cases: opened, looked and step, as A3 and H1 to H4 tell of them."""

import itertools
import random
import unittest

from examples import wrong_examples
from heldapart.cases import case_tells, laid_out
from heldapart.errors import HeldError, Unfit
from heldapart.steps import looked, opened, step
from plainly import plainly_lost
from shapes import all_cases, case_fault, heaps, random_case, same_twice, stretched

EXAMPLES = r"""
    >>> from heldapart.steps import looked, opened, step
    >>> two, chain = ("x", "y"), (((), ("x",), ("y",)), ((1, "short", 2), (2, "long", 0)))
    >>> opened(two, chain, 2)
    ((((), ("x",), ("y",)), ((1, "short", 2), (2, "short", 0))), (((), ("x",), ("y",), ()), ((1, "short", 2), (2, "short", 3), (3, "long", 0))))
    >>> opened(two, (((), ("x", "y")), ((1, "long", 0),)), 1)[1]
    (((), ("x", "y"), ()), ((1, "short", 2), (2, "long", 0)))
    >>> opened(two, chain, 1)
    raises Unfit()
    >>> [looked(chain, look) for look in (("is", "x", "y"), ("isnt", "x", "y"), ("isnt", "y", "nil"), ("is", "nil", "nil"))]
    [False, True, True, True]
    >>> step(two, chain, ("get", "x", "x")), step(two, chain, ("put", "x", "nil")), step(two, chain, ("free", "x"))
    ((('lost', (((), ('x',), ('y',)), ((1, 'short', 2), (2, 'long', 0)))),), (('case', (((), ('x',), ('y',)), ((1, 'short', 0), (2, 'long', 0)))),), (('case', (((), ('x',), ('y',)), ((2, 'long', 0),))),))
    >>> step(two, chain, ("get", "y", "y"))
    (('case', (((), ('x',), ('y',), ()), ((1, 'short', 3), (2, 'long', 0), (3, 'short', 2)))), ('case', ((('y',), ('x',), ()), ((1, 'short', 2), (2, 'short', 0)))))
    >>> step(two, chain, ("free", "y"))
    (('case', (((), ('x',), ('y',)), ((1, 'short', 2),))), ('lost', (((), ('x',), ('y',), ()), ((1, 'short', 2), (2, 'short', 3), (3, 'long', 0)))))
    >>> step(two, chain, ("set", "y", "x")), step(two, chain, ("new", "y", "x"))
    ((('case', (((), ('x', 'y'), ()), ((1, 'short', 2), (2, 'long', 0)))),), (('case', (((), ('x',), ('y',), ()), ((1, 'short', 3), (2, 'short', 1), (3, 'long', 0)))),))
    >>> loose = (((), ("x",), ("y",)), ())
    >>> step(two, loose, ("new", "x", "y"))
    (('case', (((), ('x',), ('y',)), ((1, 'short', 2),))), ('case', (((), ('x', 'y')), ((1, 'short', 1),))))
    >>> step(two, loose, ("free", "x")), step(two, ((("x", "y"),), ()), ("get", "x", "y"))
    ((('fault', (((), ('x',), ('y',)), ())),), (('fault', ((('x', 'y'),), ())),))
"""

TWO, THREE = ("x", "y"), ("x", "y", "z")
SHORT, LONG = "short", "long"


def statements_over(names):
    """All plain statements over names."""
    terms = names + ("nil",)
    for word in ("set", "new", "get"):
        for goal, term in itertools.product(names, terms):
            yield word, goal, term
    for one, other in itertools.product(terms, repeat=2):
        yield "put", one, other
    for term in terms:
        yield "free", term


def plain_steps(statement, store, heap, addresses):
    """What a statement does, for each address that a new cell may get: fault, lost, or the store and heap."""
    values, cells = dict(store) | {"nil": 0}, dict(heap)
    word = statement[0]
    if word == "new":
        results = []
        for at in addresses:
            if at not in cells:
                results.append((values | {statement[1]: at}, cells | {at: values[statement[2]]}))
    elif word == "set":
        results = [(values | {statement[1]: values[statement[2]]}, cells)]
    else:
        at = values[statement[2 if word == "get" else 1]]
        if at not in cells:
            return ["fault"]
        if word == "get":
            results = [(values | {statement[1]: cells[at]}, cells)]
        elif word == "put":
            results = [(values, cells | {at: values[statement[2]]})]
        else:
            results = [(values, {other: held for other, held in cells.items() if other != at})]
    told = []
    for values, cells in results:
        store = tuple((name, values[name]) for name, _ in store)
        told.append("lost" if plainly_lost(store, cells) else (store, tuple(sorted(cells.items()))))
    return told


class Case(unittest.TestCase):
    def stepped(self, names, case, statement):
        """step, looked at as H3 tells of it."""
        told = step(names, case, statement)
        self.assertIs(type(told), tuple)
        self.assertTrue(told)
        self.assertEqual(list(told), sorted(set(told)))
        ahead = self.aheads(names, case, statement)
        for outcome in told:
            self.assertEqual((type(outcome), len(outcome)), (tuple, 2))
            self.assertIn(outcome[0], ("case", "lost", "fault"))
            self.assertIsNone(case_fault(names, outcome[1]), outcome)
            if outcome[0] == "lost":
                self.assertIn(outcome[1], ahead)
            if outcome[0] == "fault":
                self.assertEqual(told, (("fault", case),))
        return told

    def aheads(self, names, case, statement):
        """The case, or those that it is opened to by the statement."""
        if statement[0] in ("set", "new"):
            return [case]
        term = statement[2 if statement[0] == "get" else 1]
        for begin, kind, _ in case[1]:
            if kind == LONG and term in case[0][begin]:
                return opened(names, case, begin)
        return [case]

    def told(self, case, statement, *meant, names=TWO):
        self.assertEqual(self.stepped(names, case, statement), meant)


class Examples(unittest.TestCase):
    def test_examples_as_they_stand_in_the_document(self):
        self.assertEqual(wrong_examples(EXAMPLES), (13, []))


class Opened(Case):
    def test_to_lots_with_names(self):
        lots = ((), ("x",), ("y",))
        self.assertEqual(opened(TWO, (lots, ((1, LONG, 2),)), 1),
                         ((lots, ((1, SHORT, 2),)), (lots + ((),), ((1, SHORT, 3), (3, LONG, 2)))))
        self.assertEqual(opened(TWO, (lots, ((1, LONG, 2), (2, LONG, 1))), 2), (
            (lots, ((1, LONG, 2), (2, SHORT, 1))), (lots + ((),), ((1, LONG, 2), (2, SHORT, 3), (3, LONG, 1)))))

    def test_to_nameless_lots(self):
        lots = ((), ("x",), ("y",), ())
        one = (lots, ((1, LONG, 3), (2, SHORT, 3), (3, SHORT, 0)))
        self.assertEqual(opened(TWO, one, 1), (
            (lots, ((1, SHORT, 3), (2, SHORT, 3), (3, SHORT, 0))),
            (lots + ((),), ((1, SHORT, 3), (2, SHORT, 4), (3, LONG, 4), (4, SHORT, 0)))))
        ring = (((), ("x", "y"), (), ()), ((1, SHORT, 2), (2, LONG, 3), (3, SHORT, 2)))
        self.assertEqual(opened(TWO, ring, 2), (
            (ring[0], ((1, SHORT, 2), (2, SHORT, 3), (3, SHORT, 2))),
            (ring[0] + ((),), ((1, SHORT, 2), (2, SHORT, 3), (3, LONG, 4), (4, SHORT, 2)))))

    def test_to_nil_and_from_nameless_lots(self):
        for names, lot in ((("x",), ("x",)), (("a", "b", "x"), ("a", "b", "x")), (("result",), ("result",))):
            self.assertEqual(opened(names, (((), lot), ((1, LONG, 0),)), 1), (
                (((), lot), ((1, SHORT, 0),)), (((), lot, ()), ((1, SHORT, 2), (2, LONG, 0)))))
        case = (((), ("x",), ()), ((1, SHORT, 2), (2, LONG, 0)))
        self.assertEqual(opened(("x",), case, 2), (
            (((), ("x",), ()), ((1, SHORT, 2), (2, SHORT, 0))),
            (((), ("x",), (), ()), ((1, SHORT, 2), (2, SHORT, 3), (3, LONG, 0)))))

    def test_ascending_in_either_way(self):
        source = random.Random(81)
        for _ in range(500):
            case = random_case(THREE, source, 4)
            for begin, kind, end in case[1]:
                if kind == LONG:
                    told = opened(THREE, case, begin)
                    self.assertEqual((type(told), len(told)), (tuple, 2))
                    self.assertLess(told[0], told[1])
                    for one in told:
                        self.assertIsNone(case_fault(THREE, one))
                    self.assertIn((case[0], tuple(sorted(set(case[1]) - {(begin, LONG, end)} | {(begin, SHORT, end)}))),
                                  told)

    def test_unfit(self):
        case = (((), ("x",), ("y",), ()), ((1, SHORT, 3), (3, LONG, 0)))
        for begin in (0, 1, 2, 4, 5, -1, -2, -3, 10 ** 60, -(10 ** 60)):
            with self.assertRaises(Unfit) as caught:
                opened(TWO, case, begin)
            self.assertEqual((type(caught.exception), vars(caught.exception)), (Unfit, {}))
            self.assertIsInstance(caught.exception, HeldError)
        self.assertEqual(len(opened(TWO, case, 3)), 2)
        self.assertRaises(Unfit, opened, (), (((),), ()), 0)

    def test_they_tell_of_just_the_same_heaps(self):
        source = random.Random(82)
        for _ in range(200):
            case = random_case(TWO, source, 3)
            longs = [begin for begin, kind, _ in case[1] if kind == LONG]
            if longs:
                both = opened(TWO, case, source.choice(longs))
                store, heap = stretched(case, TWO, source)
                self.assertTrue(any(case_tells(TWO, one, store, heap) for one in both))
                for one in both:
                    self.assertTrue(case_tells(TWO, case, *stretched(one, TWO, source)))
                    self.assertTrue(case_tells(TWO, case, *laid_out(TWO, one)))


class Looked(unittest.TestCase):
    def test_all_pairs_of_terms(self):
        source = random.Random(83)
        for _ in range(200):
            lots, arrows = random_case(THREE, source, 2)
            rows = [("nil",) + lots[0]] + list(lots[1:])
            for one, other in itertools.product(THREE + ("nil",), repeat=2):
                alike = any(one in row and other in row for row in rows)
                self.assertIs(looked((lots, arrows), ("is", one, other)), alike)
                self.assertIs(looked((lots, arrows), ("isnt", one, other)), not alike)

    def test_by_hand(self):
        case = (("a",), ("b", "result"), ("c",)), ((1, LONG, 0),)
        for look, meant in (
            (("is", "b", "result"), True), (("is", "a", "nil"), True), (("is", "nil", "a"), True),
            (("isnt", "nil", "c"), True), (("isnt", "c", "c"), False), (("is", "b", "c"), False),
            (("isnt", "nil", "nil"), False), (("is", "nil", "nil"), True), (("isnt", "result", "c"), True),
        ):
            self.assertIs(looked(case, look), meant, look)


class Steps(Case):
    def test_set(self):
        case = (((), ("x",), ("y",)), ((1, SHORT, 0),))
        self.told(case, ("set", "y", "x"), ("case", (((), ("x", "y")), ((1, SHORT, 0),))))
        self.told(case, ("set", "y", "nil"), ("case", ((("y",), ("x",)), ((1, SHORT, 0),))))
        self.told(case, ("set", "x", "y"), ("lost", case))
        self.told(case, ("set", "x", "nil"), ("lost", case))
        self.told(case, ("set", "x", "x"), ("case", case))
        self.told(((("x",), ("y",)), ()), ("set", "x", "nil"), ("case", ((("x",), ("y",)), ())))
        self.told(((("x",), ("y",)), ()), ("set", "y", "x"), ("case", ((("x", "y"),), ())))

    def test_long_arrows_are_not_opened_by_set_and_new(self):
        case = (((), ("x",), ("y",)), ((1, LONG, 2),))
        self.told(case, ("set", "y", "nil"), ("case", ((("y",), ("x",), ()), ((1, LONG, 2),))))
        self.told(case, ("set", "x", "y"), ("lost", case))
        self.told(case, ("new", "x", "x"), ("case", (((), ("x",), ("y",), ()), ((1, SHORT, 3), (3, LONG, 2)))),
                  ("case", (((), ("x", "y"), ()), ((1, SHORT, 2), (2, LONG, 1)))))

    def test_get(self):
        case = (((), ("x",), ("y",)), ((1, SHORT, 2), (2, SHORT, 0)))
        self.told(case, ("get", "y", "x"), ("case", case))
        self.told(case, ("get", "x", "y"), ("lost", case))
        self.told(case, ("get", "x", "x"), ("lost", case))
        self.told(case, ("get", "y", "y"), ("case", ((("y",), ("x",), ()), ((1, SHORT, 2), (2, SHORT, 0)))))
        ring = (((), ("x", "y")), ((1, SHORT, 1),))
        self.told(ring, ("get", "x", "y"), ("case", ring))
        one = (((), ("x", "y")), ((1, LONG, 0),))
        self.told(one, ("get", "y", "x"), ("case", (((), ("x",), ("y",)), ((1, SHORT, 2), (2, LONG, 0)))),
                  ("case", ((("y",), ("x",)), ((1, SHORT, 0),))))

    def test_put(self):
        case = (((), ("x",), ("y",)), ((1, LONG, 0),))
        self.told(case, ("put", "x", "y"), ("case", (((), ("x",), ("y",)), ((1, SHORT, 2),))),
                  ("lost", (((), ("x",), ("y",), ()), ((1, SHORT, 3), (3, LONG, 0)))))
        self.told(case, ("put", "x", "x"), ("case", (((), ("x",), ("y",)), ((1, SHORT, 1),))),
                  ("lost", (((), ("x",), ("y",), ()), ((1, SHORT, 3), (3, LONG, 0)))))
        self.told(case, ("put", "y", "x"), ("fault", case))
        self.told(case, ("put", "nil", "x"), ("fault", case))
        self.told(case, ("put", "nil", "nil"), ("fault", case))

    def test_free(self):
        case = (((), ("x", "y"), ()), ((1, SHORT, 2),))
        self.told(case, ("free", "x"), ("case", (((), ("x", "y")), ())))
        own = (((), ("x",), ("y",)), ((1, SHORT, 1), (2, SHORT, 1)))
        self.told(own, ("free", "x"), ("case", (((), ("x",), ("y",)), ((2, SHORT, 1),))))
        self.told(own, ("free", "y"), ("case", (((), ("x",), ("y",)), ((1, SHORT, 1),))))
        self.told(own, ("free", "nil"), ("fault", own))

    def test_faults_in_lot_0_and_where_nothing_is_held(self):
        for case in (((("x", "y"),), ()), (((), ("x", "y")), ()), ((("y",), ("x",)), ()), (((), ("x",), ("y",)), ())):
            for statement in statements_over(TWO):
                if statement[0] in ("get", "put", "free"):
                    self.told(case, statement, ("fault", case))
                else:
                    self.assertTrue(all(word == "case" for word, _ in self.stepped(TWO, case, statement)))
        shut = (((), ("x",), ("y",)), ((2, SHORT, 1),))
        for statement in (("get", "y", "x"), ("put", "x", "y"), ("free", "x")):
            self.told(shut, statement, ("fault", shut))

    def test_what_is_lost_is_told_with_the_case_as_far_as_it_was_opened(self):
        case = (((), ("x",), ("y",)), ((1, LONG, 0), (2, LONG, 1)))
        more = (((), ("x",), ("y",), ()), ((1, LONG, 0), (2, SHORT, 3), (3, LONG, 1)))
        self.told(case, ("free", "y"), ("case", (((), ("x",), ("y",)), ((1, LONG, 0),))), ("lost", more))
        self.told(case, ("put", "y", "nil"), ("case", (((), ("x",), ("y",)), ((1, LONG, 0), (2, SHORT, 0)))),
                  ("lost", more))
        self.told(case, ("set", "y", "x"), ("lost", case))
        self.told(case, ("get", "y", "y"), ("lost", (((), ("x",), ("y",)), ((1, LONG, 0), (2, SHORT, 1)))),
                  ("lost", more))
        self.told(case, ("new", "y", "nil"), ("lost", case))

    def test_nameless_lots_are_left_out_and_the_others_numbered_anew(self):
        case = (((), ("x",), ("y",), (), ()), ((1, SHORT, 3), (2, SHORT, 4)))
        self.told(case, ("free", "x"), ("case", (((), ("x",), ("y",), ()), ((2, SHORT, 3),))))
        self.told(case, ("set", "x", "y"), ("lost", case))
        case = (((), ("x",), ("y",), (), ()), ((1, SHORT, 3), (2, SHORT, 4), (3, SHORT, 4), (4, LONG, 2)))
        self.told(case, ("put", "x", "y"), ("lost", case))
        self.told(case, ("put", "x", "x"), ("lost", case))
        case = (((), ("x",), ("y",), (), ()), ((1, SHORT, 3), (2, SHORT, 4), (3, SHORT, 4), (4, SHORT, 3)))
        self.told(case, ("put", "x", "y"),
                  ("case", (((), ("x",), ("y",), (), ()), ((1, SHORT, 2), (2, SHORT, 3), (3, SHORT, 4),
                                                           (4, SHORT, 3)))))

    def test_new(self):
        nil = ((("x", "y"),), ())
        self.told(nil, ("new", "x", "y"), ("case", ((("y",), ("x",)), ((1, SHORT, 0),))))
        self.told(nil, ("new", "x", "x"), ("case", ((("y",), ("x",)), ((1, SHORT, 0),))))
        loose = (((), ("x",), ("y",)), ())
        self.told(loose, ("new", "x", "nil"), ("case", (((), ("x",), ("y",)), ((1, SHORT, 0),))),
                  ("case", (((), ("x", "y")), ((1, SHORT, 0),))))
        self.told(loose, ("new", "x", "x"), ("case", (((), ("x",), ("y",)), ((1, SHORT, 1),))),
                  ("case", (((), ("x",), ("y",), ()), ((1, SHORT, 3),))),
                  ("case", (((), ("x", "y"), ()), ((1, SHORT, 2),))))
        shut = (((), ("x",), ("y",), ()), ((1, SHORT, 3), (2, SHORT, 3)))
        self.told(shut, ("new", "y", "nil"), ("lost", shut))
        shut = (((), ("x",), ("y",), ()), ((1, SHORT, 3),))
        self.told(shut, ("new", "y", "x"), ("case", (((), ("x",), ("y",)), ((1, SHORT, 2), (2, SHORT, 1)))),
                  ("case", (((), ("x",), ("y",), ()), ((1, SHORT, 3), (2, SHORT, 1)))))

    def test_six_names_and_result(self):
        names = ("a", "b", "c", "d", "e", "result")
        loose = ((), ("a",), ("b",), ("c",), ("d",), ("e",), ("result",))
        told = self.stepped(names, (loose, ()), ("new", "result", "a"))
        self.assertEqual(len(told), 6)
        self.assertEqual(told[0], ("case", (loose, ((6, SHORT, 1),))))
        told = self.stepped(names, ((names,), ()), ("new", "result", "nil"))
        self.assertEqual(told, (("case", ((names[:5], ("result",)), ((1, SHORT, 0),))),))

    def test_lots_with_names_are_put_in_order(self):
        names = ("a", "b", "c")
        case = (((), ("a", "b"), ("c",)), ((1, SHORT, 2), (2, LONG, 1)))
        self.told(case, ("set", "a", "c"), ("case", (((), ("a", "c"), ("b",)), ((1, LONG, 2), (2, SHORT, 1)))),
                  names=names)
        self.told(case, ("set", "a", "nil"), ("case", ((("a",), ("b",), ("c",)), ((1, SHORT, 2), (2, LONG, 1)))),
                  names=names)


class BesideRuns(Case):
    """step beside plain runs of small heaps, as H4 tells."""

    def heaps_of(self, names, case, source, many):
        """Stores and heaps of which the case tells: the shortest ones, and some others."""
        rows = [laid_out(names, case)] + [stretched(case, names, source) for _ in range(many)]
        return [row for row in rows if case_tells(names, case, *row)]

    def addresses(self, store, heap):
        """Those that any name or cell has, and one of nobody."""
        named = {value for _, value in store + heap} | {at for at, _ in heap}
        return sorted(named - {0}) + [max(named | {0}) + 1]

    def looked_at(self, names, case, statement, rows):
        """Whatever the statement does on rows is told by an outcome, and each outcome comes of one."""
        outcomes = self.stepped(names, case, statement)
        met = set()
        for store, heap in rows:
            for result in plain_steps(statement, store, heap, self.addresses(store, heap)):
                told = [(word, behind) for word, behind in outcomes
                        if word == (result if isinstance(result, str) else "case")
                        and case_tells(names, behind, *((store, heap) if isinstance(result, str) else result))]
                self.assertTrue(told, (case, statement, store, heap, result))
                met.update(told)
        self.assertEqual(met, set(outcomes), (case, statement))

    def test_all_cases_of_one_and_two_names(self):
        source = random.Random(84)
        for names in (("x",), TWO):
            for case in all_cases(names):
                rows = self.heaps_of(names, case, source, 12)
                rows += [(store, heap) for store, heap in self.short_ones(names, case)]
                for statement in statements_over(names):
                    self.looked_at(names, case, statement, rows)

    def short_ones(self, names, case):
        """A store and a heap with one cell for each arrow."""
        lots, arrows = case
        shorts = (lots, tuple((begin, SHORT, end) for begin, _, end in arrows))
        return [laid_out(names, shorts)]

    def test_cases_with_nameless_lots(self):
        source = random.Random(85)
        statements = list(statements_over(THREE))
        for _ in range(250):
            case = random_case(THREE, source, 3)
            rows = self.heaps_of(THREE, case, source, 25) + self.short_ones(THREE, case)
            for statement in source.sample(statements, 4):
                self.looked_at(THREE, case, statement, rows)

    def test_each_store_and_heap_that_a_case_behind_tells_of_comes_of_one(self):
        source = random.Random(86)
        values = range(5)
        stores = [(("x", x), ("y", y)) for x, y in itertools.product(values, repeat=2)]
        small = [heap for heap in heaps((1, 2, 3, 4), values) if len(heap) < 4]
        pairs = list(itertools.product(stores, small))
        cases = [(((), ("x",), ("y",)), ((1, LONG, 2), (2, SHORT, 0))), (((), ("x", "y")), ((1, LONG, 0),)),
                 (((), ("x",), ("y",)), ((1, LONG, 0),)), (((), ("x",), ("y",), ()), ((1, SHORT, 3), (2, LONG, 3)))]
        for case in cases:
            rows = [pair for pair in pairs if case_tells(TWO, case, *pair)]
            for statement in source.sample(list(statements_over(TWO)), 9):
                results = {result for pair in rows for result in plain_steps(statement, *pair, (1, 2, 3, 4))}
                for word, behind in self.stepped(TWO, case, statement):
                    if word != "case":
                        self.assertIn(word, results)
                        continue
                    for store, heap in pairs:
                        within = all(value < 4 for _, value in store + heap) and len(heap) < 3
                        if within and all(at < 4 for at, _ in heap) and case_tells(TWO, behind, store, heap):
                            self.assertIn((store, heap), results)


class ByName(unittest.TestCase):
    def test_by_place_and_by_name_twice(self):
        case = (((), ("x",), ("y",)), ((1, SHORT, 2), (2, LONG, 0)))
        self.assertEqual(len(same_twice(self, opened, {"names": TWO, "case": case, "begin": 2})), 2)
        self.assertIs(same_twice(self, looked, {"case": case, "look": ("isnt", "x", "y")}), True)
        for statement, many in ((("get", "y", "y"), 2), (("new", "y", "x"), 1), (("free", "y"), 2),
                                (("put", "x", "x"), 1)):
            named = {"names": TWO, "case": case, "statement": statement}
            self.assertEqual(len(same_twice(self, step, named)), many, statement)
        for _ in (0, 1):
            with self.assertRaises(Unfit):
                opened(begin=1, case=case, names=TWO)


if __name__ == "__main__":
    unittest.main()
