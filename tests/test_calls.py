"""Calls on cases: rest_of and called, as A3 and I1 to I4 tell of them."""

import itertools
import random
import unittest

from examples import wrong_examples
from heldapart.calls import called, rest_of
from heldapart.cases import case_tells, laid_out
from heldapart.laying import is_laid
from heldapart.sayingtexts import read_saying
from heldapart.stores import holds, part_of
from plainly import plainly_lost
from shapes import all_cases, case_fault, clauses, heaps, random_case, same_twice, stretched

EXAMPLES = r"""
    >>> from heldapart.calls import called, rest_of
    >>> three = ("x", "y", "z")
    >>> row = ((("z",), ("x",), ("y",)), ((1, "short", 2), (2, "long", 0)))
    >>> rest_of(row, ((), (("cell", "x", "y"),))), rest_of(row, ((), (("list", "y", "z"),))), rest_of(row, ((("isnt", "x", "y"),), ()))
    ((((1, 'short', 2),), ((2, 'long', 0),)), (((2, 'long', 0),), ((1, 'short', 2),)), ((), ((1, 'short', 2), (2, 'long', 0))))
    >>> rest_of(row, ((), (("list", "x", "nil"), ("list", "z", "nil"))))
    (((1, 'short', 2), (2, 'long', 0)), ())
    >>> [rest_of(row, clause) for clause in (((), (("cell", "y", "nil"),)), ((), (("list", "y", "x"),)), ((), (("list", "x", "nil"), ("list", "y", "nil"))), ((("is", "x", "y"),), ()))]
    [None, None, None, None]
    >>> drop = ("drop", ("p",), (), (), (((), (("list", "p", "nil"),)),), (((("is", "result", "nil"),), ()),), ())
    >>> called(three, row, drop, ("call", "z", "drop", ("y",), ())), called(three, row, drop, ("call", "z", "drop", ("x",), ()))
    ((('case', ((('z',), ('x',), ('y',)), ((1, 'short', 2),))),), (('case', ((('z',), ('x',), ('y',)), ())),))
    >>> called(three, row, drop, ("call", "z", "drop", ("nil",), ())) == (("case", row),), called(three, row, drop, ("call", "x", "drop", ("y",), ()))
    (True, (('lost', ((('z',), ('x',), ('y',)), ((1, 'short', 2), (2, 'long', 0)))),))
    >>> take = ("take", ("p",), ("q",), (), (((), (("cell", "p", "q"),)),), (((("is", "result", "q"),), ()),), ())
    >>> called(three, row, take, ("call", "z", "take", ("x",), ("y",))), called(three, row, take, ("call", "z", "take", ("y",), ("nil",))) == (("head", row),)
    ((('case', (((), ('x',), ('y', 'z')), ((2, 'long', 0),))),), True)
    >>> made = ("made", (), (), (), (((), ()),), (((), (("list", "result", "nil"),)),), ())
    >>> empty, loose = ((("x", "y", "z"),), ()), ((("z",), ("x",), ("y",)), ())
    >>> called(three, empty, made, ("call", "x", "made", (), ()))
    (('case', ((('x', 'y', 'z'),), ())), ('case', ((('y', 'z'), ('x',)), ((1, 'long', 0),))))
    >>> len(called(three, loose, made, ("call", "z", "made", (), ())))
    10
    >>> any_one = ("anyone", (), (), (), (((), ()),), (((), ()),), ())
    >>> called(("x",), (((), ("x",)), ((1, "long", 0),)), any_one, ("call", "x", "anyone", (), ()))
    (('case', (((), ('x',)), ((1, 'long', 0),))), ('lost', (((), ('x',)), ((1, 'long', 0),))))
"""

ONE, TWO, THREE = ("x",), ("x", "y"), ("x", "y", "z")
SHORT, LONG = "short", "long"


def function(head, foot, params=("p",), spares=()):
    return "f", params, spares, (), read_saying(head), read_saying(foot), ()


def answers(callee, own, left, values, most):
    """All right answers to a call whose cells and values are at most so great."""
    params = tuple(sorted(own.items()))
    for given in range(most + 1):
        store = tuple(sorted(params + (("result", given),)))
        for piece in heaps([at for at in range(1, most + 1) if at not in left], values):
            if holds(callee[5], store, piece):
                yield given, piece


class Case(unittest.TestCase):
    def answered(self, names, case, callee, statement):
        """called, looked at as I3 tells of it."""
        told = called(names, case, callee, statement)
        self.assertIs(type(told), tuple)
        self.assertEqual(list(told), sorted(set(told)))
        for outcome in told:
            self.assertEqual((type(outcome), len(outcome)), (tuple, 2))
            self.assertIn(outcome[0], ("case", "lost", "head"))
            self.assertIsNone(case_fault(names, outcome[1]), outcome)
            if outcome[0] != "case":
                self.assertEqual(outcome[1], case)
            if outcome[0] == "head":
                self.assertEqual(told, (outcome,))
        return told

    def told(self, names, case, callee, statement, *meant):
        self.assertEqual(self.answered(names, case, callee, statement), tuple(sorted(meant)))


class Examples(unittest.TestCase):
    def test_examples_as_they_stand_in_the_document(self):
        self.assertEqual(wrong_examples(EXAMPLES), (17, []))


class RestOf(unittest.TestCase):
    def rest(self, case, text, meant):
        got = rest_of(case, read_saying(text)[0])
        self.assertEqual(got, meant, text)
        self.assertEqual(repr(got), repr(meant))

    def test_parts_that_lie_along_the_arrows(self):
        case = ((("z",), ("x",), ("y",), ()), ((1, SHORT, 3), (2, LONG, 0), (3, LONG, 2)))
        one, two, three = case[1]
        for text, meant in (
            ("empty", ((), case[1])), ("list(x, y)", ((one, three), (two,))), ("list(y, nil)", ((two,), (one, three))),
            ("list(x, z)", (case[1], ())), ("list(x, y) * list(y, z)", (case[1], ())), ("list(z, nil)", ((), case[1])),
            ("list(x, x) * list(y, y)", ((), case[1])), ("list(y, nil) * list(x, y)", (case[1], ())),
            ("x != y * z = nil * list(y, nil)", ((two,), (one, three))), ("list(nil, z) * x = x", ((), case[1])),
        ):
            self.rest(case, text, meant)

    def test_parts_that_do_not(self):
        case = ((("z",), ("x",), ("y",), ()), ((1, SHORT, 3), (2, LONG, 0), (3, LONG, 2)))
        for text in (
            "cell(x, y)", "cell(y, nil)", "cell(x, x)", "cell(nil, x)", "cell(z, nil)", "list(y, x)", "list(nil, x)",
            "list(z, x)", "list(x, nil) * list(y, nil)", "list(y, nil) * list(x, nil)", "list(x, y) * list(x, y)",
            "list(y, nil) * list(y, z)", "x = y", "x = y * list(x, y)", "z != nil", "list(x, y) * z != z",
        ):
            self.rest(case, text, None)

    def test_cells_and_long_arrows(self):
        short, long = (((), ("x",)), ((1, SHORT, 0),)), (((), ("x",)), ((1, LONG, 0),))
        self.rest(short, "cell(x, nil)", (((1, SHORT, 0),), ()))
        self.rest(long, "cell(x, nil)", None)
        self.rest(short, "list(x, nil)", (((1, SHORT, 0),), ()))
        self.rest(long, "list(x, nil)", (((1, LONG, 0),), ()))
        self.rest(short, "cell(x, nil) * cell(x, nil)", None)
        own = (((), ("x", "y")), ((1, SHORT, 1),))
        self.rest(own, "cell(x, y)", (((1, SHORT, 1),), ()))
        self.rest(own, "cell(x, y) * list(y, x)", (((1, SHORT, 1),), ()))
        self.rest(own, "list(x, nil)", None)

    def test_rings(self):
        ring = (((), ("x",), ("y",), ("z",)), ((1, SHORT, 2), (2, LONG, 1)))
        self.rest(ring, "list(x, y) * list(y, x)", (ring[1], ()))
        self.rest(ring, "list(x, z)", None)
        self.rest(ring, "list(x, nil)", None)
        self.rest(ring, "cell(x, y)", (((1, SHORT, 2),), ((2, LONG, 1),)))
        way_in = (((), ("x",), (), ()), ((1, SHORT, 2), (2, SHORT, 3), (3, SHORT, 2)))
        self.rest(way_in, "list(x, nil)", None)

    def test_ends_that_are_come_to_first(self):
        case = (((), ("x",), ("y",), ("z",)), ((1, LONG, 2), (2, SHORT, 3), (3, LONG, 0)))
        self.rest(case, "list(x, y)", (((1, LONG, 2),), ((2, SHORT, 3), (3, LONG, 0))))
        self.rest(case, "list(x, z)", (((1, LONG, 2), (2, SHORT, 3)), ((3, LONG, 0),)))
        self.rest(case, "list(x, y) * list(z, nil)", (((1, LONG, 2), (3, LONG, 0)), ((2, SHORT, 3),)))

    def test_used_ones_lay_the_clause_and_tell_of_its_part(self):
        source = random.Random(91)
        rows = list(clauses(TWO + ("nil",), 2))
        met = [0, 0]
        for _ in range(4000):
            case, clause = random_case(TWO, source, 2), source.choice(rows)
            got = rest_of(case, clause)
            met[got is None] += 1
            part = part_of(clause, *laid_out(TWO, case))
            self.assertEqual(got is None, part is None, (case, clause))
            if got is not None:
                used, left = got
                self.assertEqual(sorted(used + left), list(case[1]))
                self.assertEqual((list(used), list(left)), (sorted(used), sorted(left)))
                self.assertTrue(is_laid((case[0], used), clause))
                self.assertEqual(is_laid(case, clause), not left)
                store, heap = stretched(case, TWO, source)
                self.assertIsNotNone(part_of(clause, store, heap))
        self.assertGreater(min(met), 300)


class Called(Case):
    def test_heads(self):
        callee = function("cell(p, q)", "cell(p, q)", ("p", "q"))
        for case, fits in (((((), ("x",), ("y",)), ((1, SHORT, 2),)), True),
                           ((((), ("x",), ("y",)), ((1, LONG, 2),)), False),
                           ((((), ("x",), ("y",)), ()), False), (((("x", "y"),), ()), False),
                           ((((), ("x",), ("y",)), ((2, SHORT, 1),)), False)):
            told = self.answered(TWO, case, callee, ("call", "y", "f", ("x", "y"), ()))
            self.assertEqual(told == (("head", case),), not fits)

    def test_looks_of_heads(self):
        callee = function("p != nil", "result = p")
        self.told(ONE, ((("x",),), ()), callee, ("call", "x", "f", ("x",), ()), ("head", ((("x",),), ())))
        self.told(ONE, (((), ("x",)), ()), callee, ("call", "x", "f", ("x",), ()), ("case", (((), ("x",)), ())))
        self.told(ONE, (((), ("x",)), ()), callee, ("call", "x", "f", ("nil",), ()), ("head", (((), ("x",)), ())))

    def test_answers_in_each_lot(self):
        case = (((), ("x",), ("y",), ()), ((1, SHORT, 3), (2, LONG, 0)))
        told = self.answered(THREE, (((), ("x",), ("y",), ("z",), ()), ((1, SHORT, 4), (2, LONG, 0))),
                             function("empty", "empty", ()), ("call", "z", "f", (), ()))
        self.assertEqual(told, tuple(("case", one) for one in sorted([
            ((("z",), ("x",), ("y",), ()), ((1, SHORT, 3), (2, LONG, 0))),
            (((), ("x", "z"), ("y",), ()), ((1, SHORT, 3), (2, LONG, 0))),
            (((), ("x",), ("y", "z"), ()), ((1, SHORT, 3), (2, LONG, 0))),
            (((), ("x",), ("y",), ("z",)), ((1, SHORT, 3), (2, LONG, 0))),
            (((), ("x",), ("y",), ("z",), ()), ((1, SHORT, 4), (2, LONG, 0))),
            (((), ("x",), ("y",), ("z",), ()), ((1, SHORT, 4), (2, LONG, 3), (3, LONG, 0))),
        ])))
        self.assertIsNone(case_fault(TWO, case))

    def test_what_is_lost(self):
        case = (((), ("x",), ("y",)), ((1, SHORT, 0),))
        for foot, meant in (("result = nil", ("lost", case)), ("result = p", ("lost", case))):
            self.told(TWO, case, function("empty", foot), ("call", "x", "f", ("y",), ()), meant)
        self.told(TWO, case, function("empty", "result = p"), ("call", "x", "f", ("x",), ()), ("case", case))
        self.told(TWO, case, function("empty", "cell(result, p)"), ("call", "x", "f", ("x",), ()),
                  ("case", (((), ("x",), ("y",), ()), ((1, SHORT, 3), (3, SHORT, 0)))),
                  ("case", (((), ("x", "y"), ()), ((1, SHORT, 2), (2, SHORT, 0)))))
        self.told(ONE, (((), ("x",)), ((1, LONG, 0),)), function("empty", "result = nil"),
                  ("call", "x", "f", ("nil",), ()), ("lost", (((), ("x",)), ((1, LONG, 0),))))

    def test_head_that_is_used_up_is_not_lost(self):
        case = (((), ("x",)), ((1, LONG, 0),))
        self.told(ONE, case, function("list(p, nil)", "result = nil"), ("call", "x", "f", ("x",), ()),
                  ("case", ((("x",),), ())))
        case = (((), ("x",), ("y",), ()), ((1, SHORT, 3), (2, SHORT, 3), (3, LONG, 0)))
        self.told(TWO, case, function("list(p, nil)", "result = nil"), ("call", "x", "f", ("x",), ()),
                  ("case", ((("x",), ("y",), ()), ((1, SHORT, 2),))))

    def test_name_that_gets_the_answer_stands_in_the_head(self):
        case = (((), ("x",), ("y",)), ((1, LONG, 2), (2, LONG, 0)))
        callee = function("list(p, q)", "cell(p, result) * list(result, q)", ("p", "q"))
        self.told(TWO, case, callee, ("call", "x", "f", ("x", "y"), ()), ("lost", case))
        told = self.answered(TWO, case, callee, ("call", "y", "f", ("x", "y"), ()))
        self.assertEqual(told, (
            ("case", (((), ("x",), ("y",)), ((1, SHORT, 2), (2, LONG, 0)))),
            ("case", (((), ("x",), ("y",), ()), ((1, SHORT, 2), (2, LONG, 3), (3, LONG, 0)))),
        ))

    def test_feet_of_several_clauses(self):
        callee = function("empty", "result = nil | cell(result, nil) | p = nil * cell(result, result)")
        case = ((("x", "y"),), ())
        self.told(TWO, case, callee, ("call", "x", "f", ("y",), ()), ("case", ((("y",), ("x",)), ((1, SHORT, 0),))),
                  ("case", ((("y",), ("x",)), ((1, SHORT, 1),))), ("case", case))
        case = ((("x",), ("y",)), ())
        told = self.answered(TWO, case, callee, ("call", "x", "f", ("y",), ()))
        self.assertEqual(told, (
            ("case", (((), ("x",), ("y",)), ((1, SHORT, 0),))), ("case", (((), ("x", "y")), ((1, SHORT, 0),))),
            ("case", case)))
        never = function("empty", "nil != nil | cell(nil, p) | p != p | cell(p, p) * cell(p, p)")
        self.told(TWO, case, never, ("call", "x", "f", ("y",), ()))

    def test_args_alike_and_nil(self):
        two = function("p = q", "result = q * p = nil", ("p", "q"))
        case = ((("x",), ("y",)), ())
        self.told(TWO, case, two, ("call", "x", "f", ("y", "y"), ()))
        self.told(TWO, case, two, ("call", "x", "f", ("x", "y"), ()), ("head", case))
        self.told(TWO, case, two, ("call", "y", "f", ("x", "nil"), ()), ("case", ((("x", "y"),), ())))
        cells = function("empty", "cell(p, s) * list(q, s)", ("p", "q"), ("s",))
        self.told(TWO, case, cells, ("call", "x", "f", ("y", "y"), ("y",)), *[
            ("case", one) for one in sorted([((("x",), ("y",)), ((1, SHORT, 1),)), (((), ("x", "y")), ((1, SHORT, 1),)),
                                             (((), ("x",), ("y",)), ((2, SHORT, 2),))])])
        self.told(TWO, case, cells, ("call", "x", "f", ("y", "y"), ("nil",)))
        self.told(TWO, case, cells, ("call", "x", "f", ("y", "nil"), ("nil",)), *[
            ("case", one) for one in sorted([((("x",), ("y",)), ((1, SHORT, 0),)), (((), ("x", "y")), ((1, SHORT, 0),)),
                                             (((), ("x",), ("y",)), ((2, SHORT, 0),))])])

    def test_result_of_the_caller_as_an_arg(self):
        names = ("result", "x")
        callee = function("list(p, nil)", "list(result, nil) * result = p")
        case = (((), ("result",), ("x",)), ((1, LONG, 0),))
        told = self.answered(names, case, callee, ("call", "x", "f", ("result",), ()))
        self.assertEqual(told, (("case", (((), ("result", "x")), ((1, LONG, 0),))),
                                ("case", (((), ("result", "x"), ()), ((1, LONG, 2), (2, LONG, 0))))))
        told = self.answered(names, case, callee, ("call", "result", "f", ("result",), ()))
        self.assertEqual(told, (("case", case), ("case", (((), ("result",), ("x",)), ((1, LONG, 2), (2, LONG, 0))))))

    def test_parts_told_twice(self):
        case = (((), ("x",)), ())
        self.told(ONE, case, function("empty", "cell(p, nil) * cell(p, nil)"), ("call", "x", "f", ("x",), ()))
        self.told(ONE, case, function("empty", "list(p, nil) * list(p, nil)"), ("call", "x", "f", ("x",), ()))
        self.told(ONE, case, function("empty", "list(p, p) * list(p, p) * result = p"), ("call", "x", "f", ("x",), ()),
                  ("case", case))

    def test_lists_anew_pass_no_lot_that_is_held(self):
        case = (((), ("x",), ("y",), ("z",)), ((2, SHORT, 0),))
        callee = function("empty", "list(p, nil) * result = p")
        self.told(THREE, case, callee, ("call", "z", "f", ("x",), ()),
                  ("case", (((), ("x", "z"), ("y",)), ((1, LONG, 0), (2, SHORT, 0)))),
                  # The list passes the address at which z stood.
                  ("case", (((), ("x", "z"), ("y",), ()), ((1, LONG, 3), (2, SHORT, 0), (3, LONG, 0)))))
        callee = function("empty", "list(p, nil) * result = nil")
        case = (((), ("x",), ("y",), ("z",)), ())
        self.told(THREE, case, callee, ("call", "z", "f", ("x",), ()),
                  *[("case", one) for one in sorted([
                      ((("z",), ("x",), ("y",)), ((1, LONG, 0),)),
                      ((("z",), ("x",), ("y",)), ((1, LONG, 2), (2, LONG, 0))),
                      ((("z",), ("x",), ("y",), ()), ((1, LONG, 3), (3, LONG, 0))),
                      ((("z",), ("x",), ("y",), ()), ((1, LONG, 2), (2, LONG, 3), (3, LONG, 0))),
                      ((("z",), ("x",), ("y",), ()), ((1, LONG, 3), (2, LONG, 0), (3, LONG, 2)))])])

    def test_lists_anew_pass_nameless_lots(self):
        case = (((), ("x",), ("y",), ()), ((1, SHORT, 3),))
        callee = function("empty", "list(p, nil) * result = nil")
        told = self.answered(THREE, ((("z",), ("x",), ("y",), ()), ((1, SHORT, 3),)), callee,
                             ("call", "z", "f", ("y",), ()))
        self.assertEqual(told, (
            ("case", ((("z",), ("x",), ("y",), ()), ((1, SHORT, 3), (2, LONG, 0)))),
            ("case", ((("z",), ("x",), ("y",), ()), ((1, SHORT, 3), (2, LONG, 3), (3, LONG, 0))))))
        self.assertIsNone(case_fault(TWO, case))

    def test_many_answers(self):
        names = ("a", "b", "c", "d", "e", "result")
        loose = (((),) + tuple((name,) for name in names), ())
        callee = function("empty", "list(result, nil)", ())
        told = self.answered(names, loose, callee, ("call", "result", "f", (), ()))
        # nil; from an address of its own by any row of six, that of the name itself among them; from each of the
        # other five by any row of five. From where the name stood is as from an address of its own.
        self.assertEqual(len(told), 1 + 1957 + 5 * 326)


class BesideAnswers(Case):
    """called beside all answers on small heaps, as I4 tells."""

    FEET = ["empty", "result = nil", "cell(result, nil)", "list(result, nil)", "list(p, nil)",
            "result = p * list(p, nil)",
            "cell(p, result)", "list(p, result)", "list(p, nil) * list(result, p)",
            "p != nil * cell(p, p) | result = p",
            "list(p, result) * list(result, nil) | p = nil", "cell(result, p)", "p != result * cell(result, result)"]
    HEADS = ["empty", "list(p, nil)", "cell(p, nil)", "p != nil", "cell(p, p)"]

    def looked_at(self, names, case, callee, statement, rows, most):
        outcomes = self.answered(names, case, callee, statement)
        if outcomes == (("head", case),):
            self.assertIsNone(part_of(callee[4][0], *self.own(callee, statement, laid_out(names, case))))
            return
        met = set()
        for store, heap in rows:
            own, _ = self.own(callee, statement, (store, heap))
            part = part_of(callee[4][0], own, heap)
            self.assertIsNotNone(part)
            left = {at: value for at, value in heap if (at, value) not in part}
            for given, piece in answers(callee, dict(own), left, range(most + 1), most):
                values = dict(store) | {statement[1]: given}
                behind = tuple((name, values[name]) for name in names), tuple(sorted((left | dict(piece)).items()))
                if plainly_lost(behind[0], left | dict(piece)):
                    told = [outcome for outcome in outcomes if outcome[0] == "lost"]
                else:
                    told = [outcome for outcome in outcomes
                            if outcome[0] == "case" and case_tells(names, outcome[1], *behind)]
                self.assertTrue(told, (case, callee[4:6], statement, store, heap, given, piece))
                met.update(told)
        self.assertEqual(met, set(outcomes), (case, callee[4:6], statement))

    def own(self, callee, statement, pair):
        store, heap = pair
        values = dict(store) | {"nil": 0}
        return tuple(sorted(zip(callee[1] + callee[2], [values[term] for term in statement[3] + statement[4]]))), heap

    def test_all_cases_of_one_name(self):
        for case in all_cases(ONE):
            rows = [(store, heap) for store in [(("x", x),) for x in range(4)] for heap in heaps((1, 2, 3), range(4))
                    if case_tells(ONE, case, store, heap) and len(heap) < 3]
            for head, foot in itertools.product(self.HEADS, self.FEET):
                for arg in ("x", "nil"):
                    self.looked_at(ONE, case, function(head, foot), ("call", "x", "f", (arg,), ()), rows, 4)

    def test_cases_of_two_names(self):
        source = random.Random(92)
        for _ in range(60):
            case = random_case(TWO, source, 1)
            lots = len(case[0])
            if lots + len(case[1]) > 5:
                continue
            rows = [laid_out(TWO, case), laid_out(TWO, (case[0], tuple((b, SHORT, e) for b, _, e in case[1])))]
            head, foot = source.choice(self.HEADS), source.choice(self.FEET)
            statement = ("call", source.choice(TWO), "f", (source.choice(TWO + ("nil",)),), ())
            most = max([at for _, heap in rows for at, _ in heap] + [lots]) + 1
            if most < 7:
                self.looked_at(TWO, case, function(head, foot), statement, rows, min(most, 5))


class ByName(unittest.TestCase):
    def test_by_place_and_by_name_twice(self):
        case = (((), ("x",), ("y",)), ((1, SHORT, 2), (2, LONG, 0)))
        clause = read_saying("cell(x, y)")[0]
        self.assertEqual(same_twice(self, rest_of, {"case": case, "clause": clause}), (case[1][:1], case[1][1:]))
        self.assertIsNone(same_twice(self, rest_of, {"case": case, "clause": read_saying("cell(y, x)")[0]}))
        for head, many in (("list(p, nil)", 4), ("cell(p, nil)", 1)):
            named = {"names": TWO, "case": case, "function": function(head, "list(result, nil)"),
                     "statement": ("call", "y", "f", ("y",), ())}
            self.assertEqual(len(same_twice(self, called, named)), many)


if __name__ == "__main__":
    unittest.main()
