"""Programs checked: cuts, stretch_ends, check and let_by, as A2, A3 and J1 to J7 tell of them."""

import itertools
import random
import unittest

from examples import wrong_examples
from heldapart.bounds import MAX_CASES
from heldapart.calls import called
from heldapart.cases import case_tells, cases_of
from heldapart.checking import check, cuts, let_by, stretch_ends
from heldapart.errors import HeldError, NoFunction, Open, TooMany
from heldapart.judging import goes_wrong
from heldapart.laying import follows, is_laid
from heldapart.programs import names_of, program_error, ways_of
from heldapart.programtexts import read_function, read_program
from heldapart.running import run
from heldapart.sayingtexts import read_saying
from heldapart.steps import looked, step
from heldapart.stores import heap_error, holds, store_error
from known import RIGHT, STILL_RIGHT, WRONG, changed, right, small_program
from making import EMPTY, any_program, function
from plainly import (
    PlainStretch, asks_from, begins_right, drawn, names_told, plain_verdict, plainly_lost, whiles_of,
)
from shapes import case_fault, heaps, same_twice, stretched

EXAMPLES = r"""
    >>> from heldapart.checking import check, cuts, let_by, stretch_ends
    >>> nothing, all_of_x = ((), ()), ((), (("list", "x", "nil"),))
    >>> one = ("one", ("x",), (), (), (((), (("cell", "x", "nil"),)),), (nothing,), (("free", "x"),))
    >>> two = ("two", ("x",), (), (), (all_of_x,), (nothing,), (("free", "x"),))
    >>> stretch_ends((one,), "one", ())
    (((), 'kept', ((('result',), ('x',)), ())),)
    >>> stretch_ends((two,), "two", ())
    (((), 'kept', ((('result',), ('x',)), ())), ((0,), 'fault', ((('result', 'x'),), ())), ((0,), 'lost', ((('result',), ('x',), ()), ((1, 'short', 2), (2, 'long', 0)))))
    >>> both = (((), (("list", "u", "nil"), ("list", "result", "nil"))),)
    >>> turn = ("turn", ("x",), (), ("t", "u"), (all_of_x,), (((), (("list", "result", "nil"),)),), (("set", "u", "x"), ("while", ("isnt", "u", "nil"), both, (("get", "t", "u"), ("put", "u", "result"), ("set", "result", "u"), ("set", "u", "t")))))
    >>> cuts(turn), cuts(two), stretch_ends((turn,), "turn", ())
    (((), (1,)), ((),), (((1,), 'kept', ((('result', 't'), ('u', 'x')), ((1, 'long', 0),))), ((1,), 'kept', ((('result', 't', 'u', 'x'),), ()))))
    >>> let_by((one,)), let_by((two,)), let_by((turn,)), check((one, turn))
    (True, False, True, None)
    >>> join = ("join", ("x", "y"), (), (), (((), (("list", "x", "nil"), ("list", "y", "nil"))),), (((), (("list", "result", "nil"),)),), (("call", "result", "turn", ("x",), ()),))
    >>> make = ("make", (), (), (), (nothing,), (((), (("cell", "result", "nil"),)),), (("new", "result", "nil"),))
    >>> let_by((join, turn)), let_by((make,)), let_by((turn, make, one))
    (False, True, True)
    >>> from heldapart.judging import goes_wrong
    >>> goes_wrong((two,), check((two,))), goes_wrong((join, turn), check((join, turn)))
    (True, True)
    >>> check((("spin", ("x",), (), (), (nothing,), (nothing,), (("while", ("any",), None, ()),)),))
    raises Open('spin', (0,))
"""

# Over six names this has more than 8192 cases.
FAR_TOO_MANY = read_saying("list(a, nil) | list(b, nil)")


class PlainEnds:
    """All ends of stretches from a cut by cases, by the words of J1 to J3, statements standing in one another."""

    def __init__(self, program, name, way):
        self.functions = {one[0]: one for one in program}
        self.function = self.functions[name]
        self.names = names_told(self.function)
        self.met = set()
        self.ends = set()
        if way == ():
            for lots, arrows in cases_of(tuple(sorted(self.function[1] + self.function[2])), self.function[4]):
                nils = tuple(sorted(lots[0] + self.function[3] + ("result",)))
                self.come((), 0, ((nils,) + lots[1:], arrows))
        else:
            for case in cases_of(self.names, whiles_of(self.function)[way]):
                self.test(way, self.row(way[:-1])[way[-1]], case)

    def row(self, above):
        if above == ():
            return self.function[6]
        statement = self.row(above[:-2])[above[-2]]
        return statement[2 + above[-1]] if statement[0] == "if" else statement[3]

    def come(self, above, place, case):
        if (above, place, case) in self.met:
            return
        self.met.add((above, place, case))
        row = self.row(above)
        if place == len(row) and above == ():
            self.end((), self.function[5], case)
        elif place == len(row):
            way = above[:-1]
            outer = self.row(way[:-1])[way[-1]]
            if outer[0] == "while":
                self.end(way, outer[2], case)
            else:
                self.come(way[:-1], way[-1] + 1, case)
        else:
            self.do(above + (place,), row[place], case)

    def end(self, where, saying, case):
        verdict = "kept" if any([is_laid(case, clause) for clause in saying]) else "unkept"
        self.ends.add((where, verdict, case))

    def test(self, way, statement, case):
        test = statement[1]
        for side in (True, False) if test == ("any",) else (looked(case, test),):
            if side or statement[0] == "if":
                self.come(way + (0 if side else 1,), 0, case)
            else:
                self.come(way[:-1], way[-1] + 1, case)

    def do(self, way, statement, case):
        if statement[0] == "while":
            self.end(way, statement[2], case)
        elif statement[0] == "if":
            self.test(way, statement, case)
        else:
            if statement[0] == "call":
                outcomes = called(self.names, case, self.functions[statement[2]], statement)
            else:
                outcomes = step(self.names, case, statement)
            for word, behind in outcomes:
                if word == "case":
                    self.come(way[:-1], way[-1] + 1, behind)
                else:
                    self.ends.add((way, word, behind))


class Case(unittest.TestCase):
    def ends(self, program, name, way):
        """stretch_ends, looked at as J3 tells of it."""
        self.assertIsNone(program_error(program))
        told = stretch_ends(program, name, way)
        self.assertIs(type(told), tuple)
        self.assertEqual(list(told), sorted(set(told)))
        self.assertEqual(set(told), PlainEnds(program, name, way).ends)
        names = names_told({one[0]: one for one in program}[name])
        for where, verdict, case in told:
            self.assertIn(verdict, ("kept", "unkept", "fault", "lost", "head"))
            self.assertIsNone(case_fault(names, case))
        return told

    def paper(self, program):
        """check tells a paper, and it is right by the words of J1, J2 and J4."""
        paper = check(program)
        self.assertIsNotNone(paper, program)
        self.assertEqual((type(paper), len(paper)), (tuple, 5))
        name, way, store, heap, answers = paper
        one = {one[0]: one for one in program}[name]
        self.assertIn(way, [()] + list(whiles_of(one)))
        self.assertIsNone(store_error(store))
        self.assertIsNone(heap_error(heap))
        self.assertTrue(begins_right(one, way, store, heap))
        ask, left = asks_from(answers)
        verdict, where = PlainStretch(program, name, store, heap, ask).outcome(way)
        self.assertIn(verdict, ("fault", "lost", "head", "unkept"), (program, paper))
        self.assertEqual(left, [])
        self.assertTrue(goes_wrong(program, paper))
        self.assertIs(let_by(program), False)
        self.assertEqual(repr(check(program)), repr(paper))
        return verdict, where, paper

    def right(self, program):
        self.assertIsNone(program_error(program))
        self.assertIsNone(check(program), program)
        self.assertIs(let_by(program), True)
        for one in program:
            for way in cuts(one):
                self.assertEqual({verdict for _, verdict, _ in stretch_ends(program, one[0], way)} - {"kept"}, set())

    def raised(self, kind, kept, call, *given):
        with self.assertRaises(kind) as caught:
            call(*given)
        self.assertEqual((type(caught.exception), vars(caught.exception)), (kind, kept))
        self.assertIsInstance(caught.exception, HeldError)


class Examples(unittest.TestCase):
    def test_examples_as_they_stand_in_the_document(self):
        self.assertEqual(wrong_examples(EXAMPLES), (16, []))


class Cuts(unittest.TestCase):
    def test_without_whiles(self):
        self.assertEqual(cuts(function()), ((),))
        self.assertEqual(cuts(function(body=(("if", ("any",), (("free", "p"),), (("free", "p"),)),) * 9)), ((),))

    def test_in_one_another_and_in_both_sides_of_ifs(self):
        inner = ("while", ("any",), None, (("while", ("is", "p", "p"), EMPTY, ()), ("free", "p"),
                                           ("while", ("any",), None, ())))
        one = function(body=(inner, ("if", ("any",), (inner,), (("free", "p"), inner)), ("while", ("any",), EMPTY, ())))
        self.assertEqual(cuts(one), (
            (), (0,), (0, 0, 0), (0, 0, 2), (1, 0, 0), (1, 0, 0, 0, 0), (1, 0, 0, 0, 2), (1, 1, 1), (1, 1, 1, 0, 0),
            (1, 1, 1, 0, 2), (2,)))

    def test_random_functions(self):
        source = random.Random(101)
        for _ in range(150):
            for one in any_program(source):
                told = cuts(one)
                self.assertEqual(told, tuple(sorted([()] + list(whiles_of(one)))))
                self.assertLessEqual(set(told) - {()}, set(ways_of(one)))


class Ends(Case):
    def test_each_verdict(self):
        program = read_program(
            "fun f(p) var a head list(p, nil) foot empty { if p = nil { a = [nil]; } if any { a = new(p); a = nil; } "
            "if any { a = g(p); } while any keep list(p, nil) | p = a { } } "
            "fun g(p) head cell(p, nil) foot cell(p, nil) { }")
        told = self.ends(program, "f", ())
        self.assertEqual({(where, verdict) for where, verdict, _ in told},
                         {((0, 0, 0), "fault"), ((1, 0, 1), "lost"), ((2, 0, 0), "head"), ((3,), "kept")})
        told = self.ends(program, "f", (3,))
        self.assertEqual({(where, verdict) for where, verdict, _ in told},
                         {((), "kept"), ((), "unkept"), ((3,), "kept")})
        self.assertEqual({(where, verdict) for where, verdict, _ in self.ends(program, "g", ())}, {((), "kept")})

    def test_no_statements(self):
        program = read_program("fun f(p) head list(p, nil) foot p = nil { }")
        none, some = ((("p", "result"),), ()), ((("result",), ("p",)), ((1, "long", 0),))
        self.assertEqual(self.ends(program, "f", ()), (((), "kept", none), ((), "unkept", some)))

    def test_a_while_at_the_begin_ends_the_stretch_from_there(self):
        program = read_program("fun f(p) head list(p, nil) foot empty { while p = nil keep p = nil { } }")
        told = self.ends(program, "f", ())
        self.assertEqual([(where, verdict) for where, verdict, _ in told], [((0,), "kept"), ((0,), "unkept")])
        self.assertEqual(self.ends(program, "f", (0,)), tuple(
            ((0,), "kept", (lots, ())) for lots in ((("p",), ("result",)), (("p", "result"),))))

    def test_whiles_in_one_another(self):
        program = read_program("fun f(p) var a head empty foot p = nil { while any keep a = p { a = p; "
                               "while any keep a = nil { if any { a = nil; } else { a = p; } } a = nil; } "
                               "while any keep a != nil { a = p; } }")
        told = {way: self.ends(program, "f", way) for way in cuts(program[0])}
        ends = {way: {(where, verdict) for where, verdict, _ in rows} for way, rows in told.items()}
        self.assertEqual(ends, {
            (): {((0,), "kept"), ((0,), "unkept")},
            (0,): {((0, 0, 1), "kept"), ((0, 0, 1), "unkept"), ((1,), "kept"), ((1,), "unkept")},
            (0, 0, 1): {((0, 0, 1), "kept"), ((0, 0, 1), "unkept"), ((0,), "kept"), ((0,), "unkept")},
            (1,): {((), "kept"), ((), "unkept"), ((1,), "kept"), ((1,), "unkept")},
        })

    def test_ends_at_the_same_while_again(self):
        program = right("walk")
        told = self.ends(program, "walk", (1,))
        self.assertEqual({(where, verdict) for where, verdict, _ in told}, {((), "kept"), ((1,), "kept")})
        self.assertEqual({where for where, _, _ in self.ends(program, "walk", ())}, {(1,)})

    def test_ifs_of_all_three_tests(self):
        for test, ways in (("any", {(0, 0, 0), (0, 1, 0)}), ("p = nil", {(0, 0, 0), (0, 1, 0)}),
                           ("p != nil", {(0, 0, 0), (0, 1, 0)}),
                           ("p = p", {(0, 0, 0)}), ("p != p", {(0, 1, 0)}), ("p = result", {(0, 0, 0), (0, 1, 0)}),
                           ("result != nil", {(0, 1, 0)}), ("nil = nil", {(0, 0, 0)})):
            program = read_program("fun f(p) head empty foot empty { if %s { free(nil); } else { free(nil); } }" % test)
            told = self.ends(program, "f", ())
            self.assertEqual({where for where, _, _ in told}, ways, test)
            self.assertEqual({verdict for _, verdict, _ in told}, {"fault"})
            none = [where for where, _, case in told if case == ((("p", "result"),), ())]
            if test == "p = nil":
                self.assertEqual(none, [(0, 0, 0)])
            if test == "p != nil":
                self.assertEqual(none, [(0, 1, 0)])

    def test_keeps_and_feet_of_several_clauses(self):
        program = read_program("fun f(p, q) head list(p, nil) foot p = q | p = nil | q != nil * list(p, nil) "
                               "{ while any keep p = nil | p != nil * p != q * cell(p, q) | cell(p, nil) { } }")
        for way in cuts(program[0]):
            told = self.ends(program, "f", way)
            for where, verdict, case in told:
                saying = program[0][5] if where == () else program[0][6][0][2]
                names = names_of(program[0])
                self.assertIsNone(case_fault(names, case))
                self.assertEqual(verdict, "kept" if any([is_laid(case, clause) for clause in saying]) else "unkept")
                self.assertEqual({verdict for _, verdict, _ in told}, {"kept", "unkept"})

    def test_wheres_and_result_begin_nil_and_spares_as_the_head_tells(self):
        program = read_program("fun f(p) with s var a head cell(p, s) * s != nil foot empty { }")
        told = self.ends(program, "f", ())
        self.assertEqual([case for _, _, case in told], [
            ((("a", "result"), ("p",), ("s",)), ((1, "short", 2),)),
            ((("a", "result"), ("p", "s")), ((1, "short", 1),))])

    def test_at_a_while_all_names_are_as_the_keep_tells(self):
        program = read_program("fun f(p) head p = nil foot empty { while any keep empty { } }")
        told = self.ends(program, "f", (0,))
        self.assertEqual(len(told), 10)
        self.assertEqual(len(self.ends(program, "f", ())), 1)

    def test_nothing_begins_where_nothing_holds(self):
        program = read_program("fun f(p) head p != p foot empty { free(nil); while any keep nil != nil { free(nil); } }")
        self.assertEqual((self.ends(program, "f", ()), self.ends(program, "f", (1,))), ((), ()))
        self.right(program)

    def test_beside_all_cases_gone_through_plainly(self):
        source = random.Random(102)
        met = {}
        for _ in range(700):
            program = small_program(source)
            one = source.choice(program)
            for way in cuts(one):
                try:
                    told = self.ends(program, one[0], way)
                except TooMany:
                    continue
                for _, verdict, _ in told:
                    met[verdict] = met.get(verdict, 0) + 1
        self.assertEqual(sorted(met), ["fault", "head", "kept", "lost", "unkept"])
        self.assertGreater(min(met.values()), 300)

    def test_beside_stretches_on_drawn_heaps(self):
        source = random.Random(103)
        met = {}
        for _ in range(1500):
            program = small_program(source)
            one = source.choice(program)
            way = source.choice(cuts(one))
            try:
                told = stretch_ends(program, one[0], way)
                starts = self.starts(one, way)
            except TooMany:
                continue
            for _ in range(4 if starts else 0):
                store, heap = stretched(source.choice(starts), names_of(one), source)
                self.beside(program, one, way, store, heap, told, source, met)
        self.assertEqual(sorted(met), ["fault", "head", "kept", "lost", "unkept"])
        self.assertGreater(min(met.values()), 60)

    def starts(self, one, way):
        if way != ():
            return cases_of(names_of(one), whiles_of(one)[way])
        nils = one[3] + ("result",)
        return [((tuple(sorted(lots[0] + nils)),) + lots[1:], arrows)
                for lots, arrows in cases_of(tuple(sorted(one[1] + one[2])), one[4])]

    def beside(self, program, one, way, store, heap, told, source, met):
        """A stretch on a store and a heap ends as some triple tells."""
        stretch = PlainStretch(program, one[0], store, heap, drawn(source))
        self.assertTrue(begins_right(one, way, store, heap))
        verdict, where = stretch.outcome(way)
        if verdict is None:
            return
        met[verdict] = met.get(verdict, 0) + 1
        # Behind a head that is told of a case, lesser heaps of it may go on.
        if any(word == "head" for _, word, _ in told) and verdict != "head":
            return
        at = stretch.rows[-2] if verdict == "lost" else stretch.rows[-1]
        # Of lesser heaps of a case a saying may hold that cannot be laid along it.
        words = ("kept", "unkept") if verdict == "kept" else (verdict,)
        cases = [case for place, word, case in told if place == where and word in words]
        self.assertTrue(any(case_tells(names_of(one), case, *at) for case in cases), (program, way, store, heap))

    def test_errors_in_their_order(self):
        six = "fun f(a, b) var c, d, e head %s foot empty { while any keep %s { } while any { while any { } } }"
        many = read_program(six % ("empty", "list(a, nil) | list(b, nil)"))
        for name in ("g", "ff", "a"):
            self.raised(NoFunction, {"name": name}, stretch_ends, many, name, ())
            self.raised(NoFunction, {"name": name}, stretch_ends, many, name, (0,))
        for way in ((), (0,), (1,), (1, 0, 0)):
            self.raised(Open, {"name": "f", "way": (1,)}, stretch_ends, many, "f", way)
        text = six % ("empty", "list(a, nil) | list(b, nil)")
        told = read_program(text.replace("while any { while any", "if any { while any keep empty"))
        self.raised(TooMany, {"limit": 8192}, stretch_ends, told, "f", (0,))
        self.assertEqual({where for where, _, _ in stretch_ends(told, "f", ())}, {(0,)})
        self.assertEqual({where for where, _, _ in stretch_ends(told, "f", (1, 0, 0))}, {(), (1, 0, 0)})

    def test_open_whiles_of_other_functions_do_not_matter(self):
        program = read_program("fun f(p) head empty foot empty { result = g(p); } fun g(p) head empty foot result = p { while any { } }")
        self.assertEqual({verdict for _, verdict, _ in self.ends(program, "f", ())}, {"kept"})
        self.raised(Open, {"name": "g", "way": (0,)}, stretch_ends, program, "g", ())
        self.raised(Open, {"name": "g", "way": (0,)}, check, program)


class Checked(Case):
    def test_known_right_ones(self):
        for name in RIGHT:
            self.right(right(name))
        for row in STILL_RIGHT:
            self.right(changed(*row))

    def test_known_ones_together(self):
        names = ["turn", "joinr", "dropr", "copyr", "walkr", "ahead"]
        program = tuple(right(name)[0] for name in names)
        self.right(program)
        self.right(program[::-1])

    def test_small_changes_of_right_ones_go_wrong(self):
        for row in WRONG:
            self.paper(changed(*row))

    def test_a_paper_of_each_where(self):
        for text, verdict, where in (
            ("fun f(p) head empty foot empty { result = [p]; }", "fault", (0,)),
            ("fun f(p) head cell(p, p) foot empty { if any { } else { free(p); free(p); } }", None, None),
            ("fun f(p) head empty foot empty { if any { result = nil; } while any keep empty { [result] = p; } }",
             "fault", (1, 0, 0)),
            ("fun f() head empty foot empty { result = new(nil); result = nil; }", "lost", (1,)),
            ("fun f(p) head cell(p, nil) foot empty { result = new(p); result = new(nil); }", "lost", (1,)),
            ("fun f(p) head empty foot empty { result = f(p); result = g(p); } fun g(p) head cell(p, nil) foot cell(p, nil) { }", "head", (1,)),
            ("fun f(p) head empty foot empty { result = g(p); result = nil; } fun g(p) head empty foot cell(result, nil) "
             "{ result = new(nil); }", "lost", (1,)),
            ("fun f(p) var a head empty foot empty { a = g(p); a = g(p); } fun g(p) head empty foot cell(result, nil) "
             "{ result = new(nil); }", "lost", (1,)),
            ("fun f(p) head empty foot empty { while any keep p = nil { } }", "unkept", (0,)),
            ("fun f(p) head p = nil foot empty { while any keep result = nil { result = p; } }", "unkept", (0,)),
            ("fun f(p) head list(p, nil) foot cell(p, nil) { }", "unkept", ()),
            ("fun f(p) head empty foot empty { result = new(p); }", "unkept", ()),
            ("fun f(p) head empty foot result != nil { result = g(p); } fun g(p) head empty foot empty { }", "unkept",
             ()),
        ):
            got = self.paper(read_program(text))
            if verdict is not None:
                self.assertEqual(got[:2], (verdict, where), text)

    def test_answers_of_all_kinds_stand_in_papers(self):
        text = ("fun f(p) var a, b head list(p, nil) foot empty { if any { a = p; } if any { b = a; } else { result = p; } "
                "a = new(b); b = g(a, p); if b = p { free(nil); } while any keep nil != nil { } } "
                "fun g(p, q) with s head list(q, nil) * cell(p, s) foot list(q, result) * list(result, nil) { }")
        program = read_program(text.replace("g(a, p)", "g(a, p; b)"))
        self.paper(program)
        met = set()
        source = random.Random(104)
        for _ in range(1500):
            try:
                row = small_program(source)
                if check(row) is not None:
                    met.update(answer[0] for answer in self.paper(row)[2][4])
            except TooMany:
                pass
        self.assertEqual(met, {"any", "new", "call"})

    def test_papers_of_random_programs(self):
        source = random.Random(105)
        met = {}
        for _ in range(2500):
            program = small_program(source) if source.randint(0, 3) else any_program(source, 2)
            try:
                paper = check(program)
            except (Open, TooMany):
                continue
            if paper is None:
                self.right(program)
                met["right"] = met.get("right", 0) + 1
            else:
                verdict, where, paper = self.paper(program)
                verdict += "" if where else " at the end"
                met[verdict] = met.get(verdict, 0) + 1
        self.assertEqual(sorted(met), ["fault", "head", "lost", "right", "unkept", "unkept at the end"])
        self.assertGreater(min(met.values()), 20)

    def test_open_ahead_of_too_many_ahead_of_papers(self):
        wrong = "fun w() head empty foot empty { free(nil); } "
        many = "fun f(a, b) var c, d, e head empty foot empty { while any keep list(a, nil) | list(b, nil) { } } "
        bare = "fun g(p) head empty foot empty { if any { while any { while any { } } } while any { } } "
        for text in (wrong + many + bare, many + bare + wrong, bare + wrong + many):
            for call in (check, let_by):
                self.raised(Open, {"name": "g", "way": (0, 0, 0)}, call, read_program(text))
        for text in (wrong + many, many + wrong):
            for call in (check, let_by):
                self.raised(TooMany, {"limit": 8192}, call, read_program(text))
        two = bare.replace("fun g", "fun h")
        self.raised(Open, {"name": "h", "way": (0, 0, 0)}, check, read_program(two + bare))
        self.assertFalse(let_by(read_program(wrong)))

    def test_as_many_cases_as_are_let(self):
        names = ("a", "b", "c", "d", "e", "result")
        keep = read_saying("list(a, nil) | cell(a, nil) * list(b, nil) | cell(b, nil) | cell(a, nil) * cell(b, nil)")
        # One case more with each clause that parts all names, and has a cell that the others have not.
        for lots, _ in cases_of(names, read_saying("b != c * cell(c, nil)")):
            if len(cases_of(names, keep)) == MAX_CASES:
                break
            rows = [("nil",) + lots[0]] + list(lots[1:])
            looks = [("is", row[0], name) for row in rows for name in row[1:]]
            looks += [("isnt", one[0], other[0]) for one, other in itertools.combinations(rows, 2)]
            keep += ((tuple(looks), (("cell", "c", "nil"),)),)
        self.assertEqual(len(cases_of(names, keep)), MAX_CASES)
        head = "fun f(a, b) var c, d, e head a = nil foot empty { while nil = nil { %s } }"
        for body in ("", "c = c;", "if any { d = d; } e = e;"):
            one = read_function(head % body)
            one = one[:6] + ((("while", ("is", "nil", "nil"), keep, one[6][0][3]),),)
            self.assertIsNone(check((one,)))
            told = stretch_ends((one,), "f", (0,))
            self.assertEqual((len(told), {(where, verdict) for where, verdict, _ in told}), (MAX_CASES, {((0,), "kept")}))
        for body in ("if any { c = nil; } c = c;", "if any { c = nil; }"):
            one = read_function(head % body)
            one = one[:6] + ((("while", ("is", "nil", "nil"), keep, one[6][0][3]),),)
            self.raised(TooMany, {"limit": MAX_CASES}, stretch_ends, (one,), "f", (0,))
            self.raised(TooMany, {"limit": MAX_CASES}, check, (one,))

    def test_let_by_is_just_where_all_ends_are_kept(self):
        source = random.Random(106)
        both = [0, 0]
        for _ in range(600):
            program = small_program(source)
            try:
                verdicts = {verdict for one in program for way in cuts(one)
                            for _, verdict, _ in stretch_ends(program, one[0], way)}
                got = let_by(program)
            except TooMany:
                continue
            self.assertIs(got, verdicts <= {"kept"})
            both[got] += 1
        self.assertGreater(min(both), 20)

    def test_more_clauses_in_a_foot_and_stronger_heads(self):
        for name in ("turn", "walk", "join", "copy", "drop", "ring"):
            one = right(name)[0]
            self.right((one[:5] + (one[5] + read_saying("result = nil"),) + one[6:],))
            known = one[1] + one[2]
            for more in ("%s = nil * " % known[0], "%s != nil * " % known[-1]):
                looks = one[4][0][0] + read_saying(more + "nil = nil")[0][0]
                head = ((looks, one[4][0][1]),)
                self.assertTrue(follows(tuple(sorted(known)), head, one[4]))
                self.right((one[:4] + (head,) + one[5:],))

    def test_small_heaps_tell_of_stretches_without_calls(self):
        source = random.Random(107)
        both = [0, 0]
        stores = list(itertools.product(range(4), repeat=2))
        for _ in range(500):
            body = small_program(source)[0][6]
            one = read_function("fun f(p) head list(p, nil) foot list(p, nil) | list(result, nil) { }")
            program = (one[:6] + (tuple(row for row in body if row[0] in ("set", "get", "put", "free")),),)
            if program_error(program) is not None:
                continue
            wrong = False
            for p, _ in stores:
                for heap in heaps((1, 2, 3), range(4)):
                    store = (("p", p), ("result", 0))
                    if begins_right(program[0], (), store, heap):
                        wrong = wrong or plain_verdict(program, ("f", (), store, heap, ())) is not None
            if sum(1 for row in program[0][6] if row[0] in ("get", "free", "put")) < 3:
                self.assertIs(let_by(program), not wrong, program)
                both[wrong] += 1
        self.assertGreater(min(both), 30)


class Enough(Exception):
    """So many steps are enough."""


class WatchedRun:
    """A run of which each step is looked at as J5 tells: spares stand for what calls hand on."""

    def __init__(self, test, program, cells, beside, source):
        self.test = test
        self.functions = {one[0]: one for one in program}
        self.cells = cells
        self.beside = beside
        self.source = source
        self.left = 300
        self.frames = []

    def begin(self, name, own):
        try:
            self.call(name, own)
            self.look()
        except (Enough, RecursionError):
            pass

    def look(self):
        self.left -= 1
        if self.left == 0:
            raise Enough()
        self.test.assertEqual({at: held for at, held in self.cells.items() if at in self.beside}, self.beside)
        mine = {at: held for at, held in self.cells.items() if at not in self.beside}
        values = [value for frame in self.frames for value in frame.items()]
        if self.frames:
            self.test.assertFalse(plainly_lost(values, mine))

    def call(self, name, own):
        one = self.functions[name]
        frame = {"nil": 0, "result": 0, **{where: 0 for where in one[3]}, **own}
        self.frames.append(frame)
        self.row(one[6], frame)
        self.frames.pop()
        return frame["result"]

    def holding(self, test, frame):
        if test == ("any",):
            return self.source.randint(0, 1) == 1
        return (frame[test[1]] == frame[test[2]]) == (test[0] == "is")

    def row(self, statements, frame):
        for statement in statements:
            self.look()
            if statement[0] == "if":
                self.row(statement[2] if self.holding(statement[1], frame) else statement[3], frame)
            elif statement[0] == "while":
                while self.holding(statement[1], frame):
                    self.look()
                    self.row(statement[3], frame)
            else:
                self.plain(statement, frame)

    def plain(self, statement, frame):
        word = statement[0]
        if word == "call":
            callee = self.functions[statement[2]]
            own = {known: frame[term] for known, term in zip(callee[1] + callee[2], statement[3] + statement[4])}
            frame[statement[1]] = self.call(statement[2], own)
        elif word == "set":
            frame[statement[1]] = frame[statement[2]]
        elif word == "new":
            at = self.source.choice([at for at in range(1, 600) if at not in self.cells])
            self.cells[at] = frame[statement[2]]
            frame[statement[1]] = at
        elif word == "get":
            frame[statement[1]] = self.cells[frame[statement[2]]]
        elif word == "put":
            self.test.assertIn(frame[statement[1]], self.cells)
            self.cells[frame[statement[1]]] = frame[statement[2]]
        else:
            del self.cells[frame[statement[1]]]


class Runs(Case):
    """What is let by runs well, as A2 (a) and J5 tell."""

    def run_well(self, program, source, many, met):
        one = source.choice(program)
        names = tuple(sorted(one[1] + one[2]))
        cases = cases_of(names, one[4])
        for _ in range(many if cases else 0):
            own, mine = stretched(source.choice(cases), names, source)
            self.assertTrue(holds(one[4], own, mine))
            held = dict(mine)
            free = [at for at in range(1, 420) if at not in held]
            beside = {at: source.choice([0] + list(held) + free) for at in source.sample(free, source.randint(0, 6))}
            heap = tuple(sorted({**held, **beside}.items()))
            args = tuple(dict(own)[name] for name in one[1])
            choices = tuple(source.choice((0, 0, 1, 1, 2, 3, 500)) for _ in range(40))
            got = run(program, one[0], args, heap, choices, 400)
            self.assertIn(got[0], ("done", "long"), (program, one[0], args, heap, choices))
            met[got[0]] = met.get(got[0], 0) + 1
            if got[0] == "done":
                self.ended_well(one, own, beside, got)

    def ended_well(self, one, own, beside, got):
        _, value, heap, _ = got
        self.assertEqual({at: held for at, held in heap if at in beside}, beside)
        piece = tuple(cell for cell in heap if cell[0] not in beside)
        store = tuple(sorted(own + (("result", value),)))
        self.assertTrue(holds(one[5], store, piece))
        self.assertFalse(plainly_lost(store, dict(piece)))

    def test_each_step_leaves_what_lies_beside_and_loses_nothing(self):
        source = random.Random(110)
        steps = 0
        for name in RIGHT:
            program = right(name)
            for one in program:
                names = tuple(sorted(one[1] + one[2]))
                cases = cases_of(names, one[4])
                for _ in range(12):
                    own, mine = stretched(source.choice(cases), names, source)
                    held = dict(mine)
                    free = [at for at in range(1, 420) if at not in held]
                    beside = {at: source.choice([0] + list(held) + free) for at in source.sample(free, 5)}
                    watched = WatchedRun(self, program, held | beside, beside, source)
                    watched.begin(one[0], dict(own))
                    steps += 300 - watched.left
        self.assertGreater(steps, 5000)

    def test_known_ones(self):
        source = random.Random(108)
        met = {}
        for name in RIGHT:
            self.run_well(right(name), source, 60, met)
        for row in STILL_RIGHT:
            self.run_well(changed(*row), source, 20, met)
        self.assertGreater(met["done"], 300)
        self.assertGreater(met["long"], 20)

    def test_random_ones(self):
        source = random.Random(109)
        met = {}
        many = 0
        for _ in range(6000):
            program = small_program(source)
            try:
                good = let_by(program)
            except TooMany:
                continue
            if good and any(ways_of(one) for one in program):
                many += 1
                self.run_well(program, source, 8, met)
        self.assertGreater(many, 100)
        self.assertGreater(met["done"], 300)


class ByName(Case):
    def test_by_place_and_by_name_twice(self):
        good, bad = right("join"), changed("join", " [a] = y;", "")
        self.assertEqual(same_twice(self, cuts, {"function": good[0]}), ((), (0, 1, 3)))
        for way in cuts(good[0]):
            named = {"program": good, "name": "join", "way": way}
            self.assertEqual({verdict for _, verdict, _ in same_twice(self, stretch_ends, named)}, {"kept"})
        self.assertIsNone(same_twice(self, check, {"program": good}))
        self.assertIs(same_twice(self, let_by, {"program": good}), True)
        self.assertIsNotNone(same_twice(self, check, {"program": bad}))
        self.assertIs(same_twice(self, let_by, {"program": bad}), False)
        for _ in (0, 1):
            with self.assertRaises(NoFunction):
                stretch_ends(way=(), name="g", program=good)


if __name__ == "__main__":
    unittest.main()
