"""Sayings found: folded, clause_of and found, as A3 and L1 to L5 tell of them."""

import itertools
import random
import unittest

from examples import wrong_examples
from heldapart.cases import case_tells, cases_of
from heldapart.checking import check, let_by
from heldapart.errors import HeldError, TooMany, Unfit, Untold
from heldapart.finding import clause_of, folded, found
from heldapart.judging import goes_wrong
from heldapart.programs import program_error, statement_at
from heldapart.programtexts import read_program
from heldapart.sayings import saying_error
from heldapart.sayingtexts import read_saying
from heldapart.stores import holds
from known import MANY, OVER, RIGHT, SPOILT, right, small_program, without_keeps
from naively import naive_found, plain_clause, plainly_folded
from plainly import whiles_of
from shapes import all_cases, case_fault, random_case, same_twice, stretched

EXAMPLES = r"""
    >>> from heldapart.finding import clause_of, folded, found
    >>> folded(("x", "y"), (((), ("x",), ("y",), ()), ((1, "short", 3), (2, "long", 0), (3, "short", 2))))
    (((), ('x',), ('y',)), ((1, 'long', 2), (2, 'long', 0)))
    >>> folded(("x",), (((), ("x",), (), ()), ((1, "short", 2), (2, "long", 3), (3, "short", 0))))
    (((), ('x',)), ((1, 'long', 0),))
    >>> both, ring, given = (((), ("x",), ("y",), ()), ((1, "short", 3), (2, "short", 3), (3, "long", 0))), (((), ("x",), ()), ((1, "short", 2), (2, "short", 1))), (((), ("x",), ()), ((1, "short", 2),))
    >>> folded(("x", "y"), both) == both, folded(("x",), ring) == ring, folded(("x",), given) == given
    (True, True, True)
    >>> clause_of(("x", "y"), (((), ("x",), ("y",)), ((1, "long", 2), (2, "short", 0))))
    ((('isnt', 'x', 'nil'), ('isnt', 'y', 'nil'), ('isnt', 'x', 'y')), (('list', 'x', 'y'), ('cell', 'y', 'nil')))
    >>> clause_of(("p", "q", "t"), ((("t",), ("p", "q")), ((1, "short", 1),)))
    ((('is', 't', 'nil'), ('is', 'p', 'q'), ('isnt', 'p', 'nil')), (('cell', 'p', 'p'),))
    >>> clause_of((), (((),), ())), clause_of(("x",), ((("x",),), ()))
    (((), ()), ((('is', 'x', 'nil'),), ()))
    >>> clause_of(("x",), given)
    raises Unfit()
    >>> chain, empty = (((), (("list", "x", "nil"),)),), (((), ()),)
    >>> drop = ("drop", ("x",), (), ("p", "t"), chain, empty, (("set", "p", "x"), ("while", ("isnt", "p", "nil"), None, (("get", "t", "p"), ("free", "p"), ("set", "p", "t")))))
    >>> keep = found((drop,))[0][6][1][2]
    >>> len(keep), keep[0], keep[2]
    (6, ((('is', 'p', 'nil'), ('is', 'result', 'nil'), ('is', 't', 'nil'), ('is', 'x', 'nil')), ()), ((('is', 'result', 'nil'), ('is', 'p', 't'), ('is', 'p', 'x'), ('isnt', 'p', 'nil')), (('list', 'p', 'nil'),)))
    >>> keep[3][1], keep[4][1], keep[5]
    ((('list', 'p', 'nil'),), (('list', 'p', 'x'), ('list', 'x', 'nil')), ((('is', 'result', 'nil'), ('is', 't', 'nil'), ('is', 'p', 'x'), ('isnt', 'p', 'nil')), (('list', 'p', 'nil'),)))
    >>> from heldapart.checking import let_by
    >>> let_by(found((drop,))), found(found((drop,))) == found((drop,))
    (True, True)
    >>> spoilt = ("spoilt", (), (), ("p", "q"), empty, empty, (("new", "p", "nil"), ("new", "q", "p"), ("free", "p"), ("set", "p", "nil"), ("while", ("any",), None, (("set", "q", "q"),))))
    >>> found((spoilt,))
    raises Untold('spoilt', (4,))
"""

TWO, THREE = ("x", "y"), ("x", "y", "z")
SIX = ("a", "b", "c", "d", "e", "result")
SHORT, LONG = "short", "long"
NEVER = (((("isnt", "nil", "nil"),), ()),)


class Examples(unittest.TestCase):
    def test_examples_as_they_stand_in_the_document(self):
        self.assertEqual(wrong_examples(EXAMPLES), (18, []))


class Folded(unittest.TestCase):
    def told(self, names, case, meant):
        got = folded(names, case)
        self.assertEqual(got, meant)
        self.assertEqual(repr(got), repr(meant))
        self.assertIsNone(case_fault(names, got))
        self.assertEqual(got, plainly_folded(case))

    def test_rows_of_nameless_lots(self):
        for kinds in itertools.product((SHORT, LONG), repeat=4):
            lots = ((), ("x",), (), (), ())
            arrows = tuple((at + 1, kind, at + 2 if at < 3 else 0) for at, kind in enumerate(kinds))
            self.told(("x",), (lots, arrows), (((), ("x",)), ((1, LONG, 0),)))
            loose = (lots[:5] + ((),), arrows[:3] + ((4, kinds[3], 5),))
            self.told(("x",), loose, (((), ("x",), ()), ((1, LONG, 2),)))

    def test_into_rings(self):
        case = (((), ("x",), (), (), ()), ((1, SHORT, 2), (2, SHORT, 3), (3, SHORT, 4), (4, SHORT, 2)))
        self.told(("x",), case, (((), ("x",), (), ()), ((1, SHORT, 2), (2, LONG, 3), (3, SHORT, 2))))
        case = (((), ("x",), (), ()), ((1, SHORT, 2), (2, LONG, 3), (3, SHORT, 1)))
        self.told(("x",), case, (((), ("x",), ()), ((1, LONG, 2), (2, SHORT, 1))))
        case = (((), ("x",), ()), ((1, SHORT, 2), (2, SHORT, 2)))
        self.told(("x",), case, case)

    def test_two_arrows_that_end_there(self):
        case = (((), ("x",), ("y",), (), ()), ((1, SHORT, 3), (2, SHORT, 4), (3, SHORT, 4), (4, LONG, 0)))
        self.told(TWO, case, (((), ("x",), ("y",), ()), ((1, LONG, 3), (2, SHORT, 3), (3, LONG, 0))))
        case = (((), ("x",), ("y",), (), ()), ((1, SHORT, 3), (2, SHORT, 3), (3, SHORT, 4), (4, SHORT, 2)))
        self.told(TWO, case, (((), ("x",), ("y",), ()), ((1, SHORT, 3), (2, SHORT, 3), (3, LONG, 2))))

    def test_nothing_held(self):
        case = (((), ("x",), ("y",), (), ()), ((1, SHORT, 3), (2, SHORT, 4), (4, SHORT, 0)))
        self.told(TWO, case, (((), ("x",), ("y",), ()), ((1, SHORT, 3), (2, LONG, 0))))
        case = (((), ("x",), ("y",), (), ()), ((1, SHORT, 3), (2, SHORT, 4), (3, SHORT, 2)))
        self.told(TWO, case, (((), ("x",), ("y",), ()), ((1, LONG, 2), (2, SHORT, 3))))

    def test_without_nameless_lots(self):
        for case in all_cases(TWO):
            self.told(TWO, case, case)
        self.told((), (((),), ()), (((),), ()))

    def test_random_cases(self):
        source = random.Random(121)
        for _ in range(3000):
            case = random_case(THREE, source, 5)
            got = folded(THREE, case)
            self.told(THREE, case, plainly_folded(case))
            self.assertEqual(folded(THREE, got), got)
            if source.randint(0, 4) == 0:
                self.assertTrue(case_tells(THREE, got, *stretched(case, THREE, source)), (case, got))


class ClauseOf(unittest.TestCase):
    def test_by_hand(self):
        for names, case, text in (
            (SIX, ((SIX,), ()), " * ".join(name + " = nil" for name in SIX)),
            (SIX, (((), SIX), ((1, SHORT, 1),)), "a = b * a = c * a = d * a = e * a = result * a != nil * cell(a, a)"),
            (SIX, ((("d",), ("a", "e"), ("b", "c"), ("result",)), ((1, LONG, 3), (2, SHORT, 0), (3, LONG, 1))),
             "d = nil * a = e * b = c * a != nil * b != nil * result != nil * a != b * a != result * b != result * "
             "list(a, result) * cell(b, nil) * list(result, a)"),
            (TWO, (((), ("x",), ("y",)), ((2, SHORT, 1),)), "x != nil * y != nil * x != y * cell(y, x)"),
        ):
            self.assertEqual((clause_of(names, case),), read_saying(text))
        apart = (((),) + tuple((name,) for name in SIX), ())
        self.assertEqual(len(clause_of(SIX, apart)[0]), 6 + 15)

    def test_all_cases_of_few_names(self):
        for names in ((), ("x",), TWO):
            for case in all_cases(names):
                clause = clause_of(names, case)
                self.assertEqual(repr(clause), repr(plain_clause(case)))
                self.assertIsNone(saying_error((clause,)))
                self.assertIn(case, cases_of(names, (clause,)))

    def test_it_holds_where_the_case_tells(self):
        source = random.Random(122)
        pool = list(all_cases(THREE))
        for case in source.sample(pool, 300):
            clause = clause_of(THREE, case)
            self.assertEqual(clause, plain_clause(case))
            self.assertTrue(holds((clause,), *stretched(case, THREE, source)))
            self.assertIn(case, cases_of(THREE, (clause,)))

    def test_unfit_where_lots_have_no_names(self):
        source = random.Random(123)
        both = [0, 0]
        for _ in range(600):
            case = random_case(TWO, source, 2)
            nameless = len(case[0]) > 1 + len([lot for lot in case[0][1:] if lot])
            both[nameless] += 1
            if nameless:
                with self.assertRaises(Unfit) as caught:
                    clause_of(TWO, case)
                self.assertEqual((type(caught.exception), vars(caught.exception)), (Unfit, {}))
            else:
                self.assertEqual(clause_of(TWO, case), plain_clause(case))
        self.assertGreater(min(both), 100)


class Found(unittest.TestCase):
    def told(self, program):
        """found, looked at as L4 tells of it; keeps are those of the plain words."""
        self.assertIsNone(program_error(program))
        got = found(program)
        self.assertIsNone(program_error(got))
        self.assertEqual((None, got), naive_found(program))
        for one, other in zip(program, got):
            self.assertEqual(one[:6], other[:6])
            self.assertEqual(list(whiles_of(one)), list(whiles_of(other)))
            for way, keep in whiles_of(other).items():
                self.assertIsNone(saying_error(keep))
                if whiles_of(one)[way] is None:
                    self.assertEqual(list(keep), sorted(set(keep)))
                else:
                    self.assertEqual(keep, whiles_of(one)[way])
        self.assertEqual(repr(found(got)), repr(got))
        return got

    def keeps(self, text):
        program = read_program(text)
        return [keep for one in self.told(program) for keep in whiles_of(one).values()]

    def raised(self, kind, kept, program):
        with self.assertRaises(kind) as caught:
            found(program)
        self.assertEqual((type(caught.exception), vars(caught.exception)), (kind, kept))
        self.assertIsInstance(caught.exception, HeldError)

    def test_known_right_loops_are_let_by_with_what_is_found(self):
        for name in RIGHT:
            program = self.told(without_keeps(name))
            self.assertIsNone(check(program), name)

    def test_whiles_that_nothing_comes_to(self):
        for text in (
            "fun f(p) head p != p foot empty { while any { } }",
            "fun f() head empty foot empty { free(nil); while any { } }",
            "fun f(p) head empty foot empty { if p != p { while any { } } }",
            "fun f(p) head empty foot empty { while p != p keep p != p { while any { } } }",
            "fun f() head empty foot empty { result = new(nil); result = nil; while any { } }",
            "fun f(p) head empty foot empty { result = g(p); while any { } } fun g(p) head cell(p, p) foot empty { free(p); }",
            "fun f(p) head empty foot empty { result = g(p); while any { } } fun g(p) head empty foot p != p { }",
        ):
            self.assertIn(NEVER, [tuple(keep) for keep in self.keeps(text)], text)

    def test_one_behind_another_and_in_one_another_and_in_ifs(self):
        keeps = self.keeps("fun f(p) var a head list(p, nil) foot list(p, nil) { a = p; while a != nil { a = [a]; } "
                           "if any { a = p; while a != nil { while any { } a = [a]; } } else { while any { a = p; } } }")
        self.assertEqual(len(keeps), 4)
        self.assertTrue(all(keep != NEVER for keep in keeps))
        self.assertTrue(let_by(found(read_program(
            "fun f(p) var a head list(p, nil) foot list(p, nil) { while any { a = p; while a != nil { a = [a]; } } }"))))

    def test_keeps_that_are_told_stay(self):
        text = ("fun f(p) var a head list(p, nil) foot list(p, nil) { while any keep list(p, nil) * a = nil { "
                "while any { a = p; } a = nil; } while any keep empty { } }")
        program = read_program(text)
        got = self.told(program)
        self.assertEqual(statement_at(got[0], (0,))[2], statement_at(program[0], (0,))[2])
        self.assertEqual(statement_at(got[0], (1,))[2], read_saying("empty"))
        self.assertEqual(found(right("turn")), right("turn"))
        whole = tuple(right(name)[0] for name in ("turn", "walk", "dropr"))
        self.assertEqual(repr(found(whole)), repr(whole))

    def test_stretches_from_told_keeps_come_to_whiles(self):
        one = self.keeps("fun f(p) head empty foot empty { while any keep empty { } while any { } }")
        two = self.keeps("fun f(p) head empty foot empty { while any keep result = nil { } while any { } }")
        self.assertGreater(len(one[1]), len(two[1]))

    def test_least_lots(self):
        keeps = self.keeps("fun f(p) head empty foot empty { while any { } }")
        self.assertEqual(keeps, [tuple(sorted(read_saying(
            "p = nil * result = nil | result = nil * p != nil")))])
        keeps = self.keeps("fun f() head empty foot empty { while any { if result = nil { result = new(nil); } } }")
        self.assertEqual(keeps, [tuple(sorted(read_saying("result = nil | result != nil * cell(result, nil)")))])

    def test_calls_and_tests_on_the_way(self):
        self.told(read_program("fun f(p) var a head list(p, nil) foot empty { while p != a { a = g(p, a; p); if any { a = nil; } } } "
                               "fun g(p, q) with s head p = s foot result = p | result = q { }"))
        self.told(read_program("fun f(p) var a head empty foot empty { while any { a = g(p); if a != nil { free(a); } } } "
                               "fun g(p) head empty foot cell(result, p) | result = nil { }"))

    def test_untold(self):
        spoilt = read_program(SPOILT)
        self.raised(Untold, {"name": "spoilt", "way": (4,)}, spoilt)
        self.assertEqual(naive_found(spoilt), (Untold, ("spoilt", (4,))))
        other = spoilt[0][:6] + (spoilt[0][6][:4] + (("while", ("any",), NEVER, ()),) + spoilt[0][6][4:],)
        self.assertEqual(naive_found((other,))[0], None)
        twice = spoilt[0][:6] + ((("if", ("any",), (), spoilt[0][6]),) + spoilt[0][6],)
        self.raised(Untold, {"name": "spoilt", "way": (0, 1, 4)}, (twice,))
        good, late = right("turn")[0], ("late",) + spoilt[0][1:]
        self.raised(Untold, {"name": "late", "way": (4,)}, (good, late, spoilt[0]))
        self.raised(Untold, {"name": "spoilt", "way": (4,)}, (good, spoilt[0], late))
        self.raised(Untold, {"name": "spoilt", "way": (4,)}, (without_keeps("turn")[0], spoilt[0], late))
        told = read_program(SPOILT.replace("while any {", "while any keep empty {"))
        self.assertEqual(found(told), told)

    def test_too_many_cases_ahead_of_too_many_clauses_ahead_of_untold(self):
        rows = {"over": read_program(OVER)[0], "many": read_program(MANY)[0], "spoilt": read_program(SPOILT)[0]}
        for names in itertools.permutations(rows):
            self.raised(TooMany, {"limit": 8192}, tuple(rows[name] for name in names))
        for names in itertools.permutations(("many", "spoilt")):
            self.raised(TooMany, {"limit": 64}, tuple(rows[name] for name in names))
        self.raised(TooMany, {"limit": 64}, (rows["many"],))
        self.raised(TooMany, {"limit": 8192}, (rows["over"],))

    def test_too_many_cases_of_functions_without_open_whiles_do_not_matter(self):
        told = read_program(OVER.replace(" while any { }", ""))
        self.assertEqual(found(told), told)
        got = found(told + without_keeps("turn"))
        self.assertEqual(got[0], told[0])
        self.assertTrue(let_by(got[1:]))

    def test_as_many_clauses_as_are_let(self):
        # Four params and nil are parted in 52 ways; a is p in 10 and in 2 of them besides, then q in one more.
        text = ("fun f(p, q, r, s) var a head empty foot empty { if any { if q = nil { a = p; } else { if q = r { "
                "if r = s { a = p; } } } } %s while any { } }")
        program = read_program(text % "")
        got = self.told(program)
        self.assertEqual([len(keep) for keep in whiles_of(got[0]).values()], [64])
        one = "if p = nil { if r = nil { if s = nil { if any { a = q; } } } }"
        self.raised(TooMany, {"limit": 64}, read_program(text % one))
        self.assertEqual(naive_found(read_program(text % one)), (TooMany, (64,)))

    def test_beside_the_plain_words(self):
        source = random.Random(125)
        met = {}
        for _ in range(1500):
            program = small_program(source, True)
            if all(keep is not None for one in program for keep in whiles_of(one).values()):
                continue
            try:
                got = (None, found(program))
            except (Untold, TooMany) as error:
                got = (type(error), tuple(vars(error).values()))
            try:
                meant = naive_found(program)
            except TooMany as error:
                meant = (TooMany, (error.limit,))
            self.assertEqual(repr(got), repr(meant))
            met[got[0]] = met.get(got[0], 0) + 1
            if got[0] is None:
                self.assertEqual(found(got[1]), got[1])
                self.judged(got[1])
        self.assertEqual(set(met), {None, Untold, TooMany})

    def judged(self, program):
        try:
            paper = check(program)
        except TooMany:
            return
        self.assertIs(goes_wrong(program, paper), paper is not None)


class ByName(unittest.TestCase):
    def test_by_place_and_by_name_twice(self):
        case = (((), ("x",), ("y",), ()), ((1, SHORT, 3), (3, SHORT, 2)))
        self.assertEqual(same_twice(self, folded, {"names": TWO, "case": case}),
                         (((), ("x",), ("y",)), ((1, LONG, 2),)))
        self.assertEqual(len(same_twice(self, clause_of, {"names": TWO, "case": folded(TWO, case)})[0]), 3)
        self.assertEqual(len(same_twice(self, found, {"program": without_keeps("turn")})), 1)
        for _ in (0, 1):
            with self.assertRaises(Unfit):
                clause_of(case=case, names=TWO)
            with self.assertRaises(Untold):
                found(program=read_program(SPOILT))


if __name__ == "__main__":
    unittest.main()
