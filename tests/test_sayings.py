"""Sayings: saying_error and names_in, as A3, A4, A5 and A7 tell of them."""

import copy
import doctest
import itertools
import unittest

from heldapart.errors import BadText, Open
from heldapart.sayings import names_in, saying_error

WORDS = """nil result fun head foot with var if else while keep new free any cell list empty is isnt""".split()
LETTERS = "abcdefghijklmnopqrstuvwxyz"

PLAIN = (((), ()),)
ROW = (((("isnt", "x", "nil"),), (("cell", "x", "y"), ("list", "y", "nil"))),)
LOOKS = (("is", "x", "y"), ("isnt", "y", "nil"))
PARTS = (("cell", "x", "y"), ("list", "y", "nil"))

GOOD_TERMS = [
    "nil", "result", "x", "a", "z", "as", "to", "set", "get", "put", "call", "isn", "isnta", "nils", "ni",
    "results", "lists", "abcdefgh", "zzzzzzzz", "none", "true", "empt", *LETTERS,
]
BAD_TERMS = [
    *[word for word in WORDS if word not in ("nil", "result")],
    "", "abcdefghi", "zzzzzzzzz", "a" * 20000, "X", "xY", "Xy", "NIL", "Result", "x1", "1", "0", "x_", "_x", "x'",
    " ", "x ", " x", "x y", "\n", "x\n", "\nx", "x\ny", "abcdefgh\n", "nil\n", "result\n", " nil", "nil ", "x,y", "*",
    "is\n", "(x)", "@", "`", "{", "x{", "x`", "x-y", "=", "!=",
    None, True, False, 0, 1, -1, 7, 10 ** 399, (), ("x",), ("nil",), ("x", "y"), [], ["x"], {}, {"x": 1},
    ("is", "x", "y"), BadText(), Open("x", (0,)),
]
BAD_LOOK_WORDS = [
    "cell", "list", "as", "nil", "x", "", "IS", "Is", "is ", " is", "is\n", "isn", "isnt ", "isntt", "i", "s", "empty",
    "=", "!=", None, True, False, 0, 1, (), ("is",), ["is"], {"is": "isnt"}, ("is", "isnt"), BadText(),
]
BAD_PART_WORDS = [
    "is", "isnt", "as", "nil", "x", "", "CELL", "List", "cell ", "list\n", " list", "cel", "cells", "lists", "empty",
    "c", None, True, False, 0, 1, (), ("cell",), ["list"], {"cell": "list"}, ("cell", "list"), BadText(),
]
NO_TUPLES = [
    None, True, False, 0, 1, -3, 10 ** 399, "", "is", "xy", "isx", "empty", "x" * 20000, [], {}, [()], [(), ()],
    [[], []], {"x": 1}, {0: (), 1: ()}, {(): ()}, ["is", "x", "y"], ["cell", "x", "y"], BadText(), Open("x", (0,)),
]


def look_clause(look):
    return ((look,), ())


def part_clause(part):
    return ((), (part,))


def deep_value():
    deep = ()
    for _ in range(38):
        deep = (deep,)
    return deep


class Examples(unittest.TestCase):
    """
    >>> from heldapart.sayings import names_in, saying_error
    >>> plain, row = (((), ()),), (((("isnt", "x", "nil"),), (("cell", "x", "y"), ("list", "y", "nil"))),)
    >>> [saying_error(value) for value in (plain, row, row * 64, row + plain, (), row * 65, list(row), None)]
    [None, None, None, None, 'form', 'form', 'form', 'form']
    >>> odd = [((),), [(), ()], ((("is", "x"),), ()), ((("as", "x", "y"),), ()), ((("is", "X", "y"),), ()), ((("is", "cell", "y"),), ()), ((("is", "x", 0),), ())]
    >>> [saying_error(plain + (clause,)) for clause in odd] == [("clause", 1)] * 7
    True
    >>> [saying_error((clause,)) for clause in (((), (("is", "x", "y"),)), ((), (("cell", "x", "y"),) * 9), ((("is", "x", "x"),) * 31, ()), ((("is", "nil", "nil"),) * 30, (("list", "nil", "x"),) * 8))]
    [('clause', 0), ('clause', 0), ('clause', 0), None]
    >>> names_in(row), names_in(plain), names_in((((("is", "s", "nil"),), (("list", "a", "result"),)),))
    (('x', 'y'), (), ('a', 'result', 's'))
    """

    def test_examples_as_they_stand_in_the_document(self):
        found = doctest.DocTestFinder().find(Examples, "examples", globs={})
        results = doctest.DocTestRunner().run(found[0])
        self.assertEqual((results.attempted, results.failed), (7, 0))


class SayingsThatAre(unittest.TestCase):
    def right(self, saying):
        self.assertIsNone(saying_error(saying), saying)

    def test_numbers_of_clauses(self):
        for many in (1, 2, 3, 63, 64):
            self.right(PLAIN * many)
            self.right(ROW * many)
        self.right((PLAIN + ROW) * 32)

    def test_numbers_of_looks_and_parts(self):
        for looks, parts in itertools.product((0, 1, 2, 29, 30), (0, 1, 2, 7, 8)):
            self.right(((LOOKS[:1] * looks, PARTS[:1] * parts),))
        self.right((((LOOKS * 15), (PARTS * 4)),))

    def test_all_that_is_greatest_at_once(self):
        self.right((((("isnt", "abcdefgh", "result"),) * 30, (("list", "zzzzzzzz", "nil"),) * 8),) * 64)

    def test_all_words_at_the_head(self):
        for word in ("is", "isnt"):
            self.right((look_clause((word, "x", "y")),))
        for word in ("cell", "list"):
            self.right((part_clause((word, "x", "y")),))

    def test_terms(self):
        for term in GOOD_TERMS:
            for left, right in ((term, "y"), ("y", term), (term, term)):
                self.right((look_clause(("is", left, right)),))
                self.right((look_clause(("isnt", left, right)),))
                self.right((part_clause(("cell", left, right)),))
                self.right((part_clause(("list", left, right)),))

    def test_names_of_each_length(self):
        for many in range(1, 9):
            self.right((look_clause(("is", "q" * many, LETTERS[-many:])),))


class NoSayings(unittest.TestCase):
    def wrong(self, clause):
        """The clause is none at every place among right ones."""
        for ahead, behind in ((0, 0), (1, 0), (0, 1), (2, 3), (63, 0), (0, 63)):
            value = ROW * ahead + (clause,) + PLAIN * behind
            told = saying_error(value)
            self.assertEqual(told, ("clause", ahead), value)
            self.assertIs(type(told), tuple)
            self.assertIs(type(told[1]), int)

    def test_no_tuples(self):
        for value in [*NO_TUPLES, list(ROW), [ROW], dict.fromkeys(ROW), saying_error, "form"]:
            self.assertEqual(saying_error(value), "form", value)

    def test_numbers_of_clauses(self):
        for value in ((), ROW * 65, PLAIN * 65, PLAIN * 66, PLAIN * 2000, (None,) * 65, (1,) * 8000):
            self.assertEqual(saying_error(value), "form")

    def test_form_is_told_ahead_of_clauses(self):
        self.assertEqual(saying_error([None]), "form")
        self.assertEqual(saying_error(PLAIN * 64 + (None,)), "form")
        self.assertEqual(saying_error((None,) + PLAIN * 64), "form")

    def test_first_wrong_clause_is_told(self):
        for places in ((0, 1), (0, 63), (1, 2), (5, 7, 9), (62, 63), tuple(range(64)), tuple(range(10, 64))):
            value = [ROW[0]] * 64
            for at, place in enumerate(places):
                value[place] = (None, ((), ()) + ((),), look_clause(("is", "x", 0)))[at % 3]
            self.assertEqual(saying_error(tuple(value)), ("clause", places[0]))

    def test_clauses_that_are_no_tuples(self):
        for value in [*NO_TUPLES, list(ROW[0])]:
            self.wrong(value)

    def test_clauses_of_other_lengths(self):
        for clause in ((), ((),), ((), (), ()), (LOOKS,), (PARTS,), (LOOKS, PARTS, ()), (LOOKS, PARTS, PARTS)):
            self.wrong(clause)
        for clause in (ROW, PLAIN, LOOKS, PARTS, LOOKS[0], PARTS[0]):
            self.wrong(clause)

    def test_looks_and_parts_that_are_no_tuples(self):
        for value in [*NO_TUPLES, list(LOOKS), list(PARTS), dict.fromkeys(LOOKS), "list", "abc"]:
            self.wrong((value, ()))
            self.wrong(((), value))
            self.wrong((value, PARTS))
            self.wrong((LOOKS, value))
            self.wrong((value, value))

    def test_too_many_looks_or_parts(self):
        for many in (31, 32, 64, 2000):
            self.wrong((LOOKS[:1] * many, ()))
            self.wrong((LOOKS[:1] * many, PARTS))
        for many in (9, 10, 30, 31, 2000):
            self.wrong(((), PARTS[:1] * many))
            self.wrong((LOOKS, PARTS[:1] * many))

    def wrong_triple(self, triple, kind):
        """The triple is wrong alone, and as the first, the middle and the last one of several."""
        good = (LOOKS, PARTS)[kind][0]
        for row in ((triple,), (triple, good), (good, triple), (good, triple, good), (good,) * 7 + (triple,)):
            clauses = ((row, ()), (row, PARTS)) if kind == 0 else (((), row), (LOOKS, row))
            for clause in clauses:
                self.assertEqual(saying_error((clause,)), ("clause", 0), clause)
                self.assertEqual(saying_error(PLAIN + (clause,) + ROW), ("clause", 1), clause)

    def test_last_look_of_thirty_and_last_part_of_eight(self):
        self.wrong((LOOKS[:1] * 29 + (("is", "x", "X"),), ()))
        self.wrong(((), PARTS[:1] * 7 + (("cell", "x", "X"),)))

    def test_triples_that_are_no_tuples(self):
        for value in NO_TUPLES:
            self.wrong_triple(value, 0)
            self.wrong_triple(value, 1)

    def test_lists_in_the_place_of_tuples(self):
        look, part = LOOKS[0], PARTS[0]
        self.assertEqual(saying_error([((look,), (part,))]), "form")
        for clause in ([(look,), (part,)], ([look], (part,)), ((look,), [part])):
            self.wrong(clause)
        for clause in (((list(look),), (part,)), ((look,), (list(part),))):
            self.wrong(clause)
        for spot in (0, 1, 2):
            for kind, triple in enumerate((look, part)):
                self.wrong_triple(triple[:spot] + ([triple[spot]],) + triple[spot + 1:], kind)

    def test_triples_of_other_lengths(self):
        for kind, word in ((0, "is"), (0, "isnt"), (1, "cell"), (1, "list")):
            for triple in ((), (word,), (word, "x"), (word, ("x", "y")), (word, "x", "y", "z"), (word,) + ("x",) * 4):
                self.wrong_triple(triple, kind)
        self.wrong_triple(("any",), 0)

    def test_other_words_at_the_head(self):
        for word in BAD_LOOK_WORDS:
            self.wrong_triple((word, "x", "y"), 0)
        for word in BAD_PART_WORDS:
            self.wrong_triple((word, "x", "y"), 1)

    def test_looks_among_parts_and_parts_among_looks(self):
        for look in LOOKS:
            self.wrong_triple(look, 1)
        for part in PARTS:
            self.wrong_triple(part, 0)
        self.wrong((PARTS, LOOKS))
        self.wrong((PARTS, ()))
        self.wrong(((), LOOKS))

    def test_bad_terms(self):
        for term in BAD_TERMS:
            for kind, word in ((0, "is"), (0, "isnt"), (1, "cell"), (1, "list")):
                self.wrong_triple((word, term, "y"), kind)
                self.wrong_triple((word, "x", term), kind)
                self.wrong_triple((word, term, term), kind)

    def test_all_other_signs(self):
        for sign in [chr(code) for code in range(32, 127)] + ["\n"]:
            if sign not in LETTERS:
                for term in (sign, "x" + sign, sign + "x", "x" + sign + "y", "abcdefg" + sign):
                    self.wrong_triple(("is", "x", term), 0)
                    self.wrong_triple(("list", term, "x"), 1)

    def test_deep_values(self):
        deep = deep_value()
        self.assertEqual(saying_error(deep), ("clause", 0))
        self.wrong(deep)
        self.wrong((deep, ()))
        self.wrong(((), deep))
        self.wrong_triple(("is", "x", deep), 0)


class Names(unittest.TestCase):
    def told(self, saying, names):
        self.assertIsNone(saying_error(saying))
        found = names_in(saying)
        self.assertEqual(found, names)
        self.assertIs(type(found), tuple)

    def test_result_is_told_and_nil_is_not(self):
        self.told((look_clause(("is", "result", "nil")),), ("result",))
        self.told((part_clause(("list", "nil", "result")),), ("result",))
        self.told((look_clause(("isnt", "nil", "nil")),), ())
        self.told((part_clause(("cell", "nil", "nil")),), ())

    def test_no_names(self):
        self.told(PLAIN, ())
        self.told(PLAIN * 64, ())
        self.told((look_clause(("is", "nil", "nil")), part_clause(("list", "nil", "nil"))), ())

    def test_each_place(self):
        for triple in (("is", "a", "b"), ("isnt", "a", "b"), ("is", "b", "a"), ("isnt", "b", "a")):
            self.told((look_clause(triple),), ("a", "b"))
        for triple in (("cell", "a", "b"), ("list", "a", "b"), ("cell", "b", "a"), ("list", "b", "a")):
            self.told((part_clause(triple),), ("a", "b"))

    def test_each_once_and_ascending(self):
        self.told((look_clause(("is", "x", "x")),), ("x",))
        self.told(ROW * 64, ("x", "y"))
        self.told(((LOOKS, PARTS), (LOOKS[:1], ()), ((), PARTS[1:])), ("x", "y"))
        mixed = (
            ((("is", "zz", "b"), ("isnt", "result", "b")), (("cell", "ab", "a"),)),
            ((), (("list", "s", "zz"), ("list", "z", "nil"))),
            ((("is", "nil", "abc"),), ()),
        )
        self.told(mixed, ("a", "ab", "abc", "b", "result", "s", "z", "zz"))

    def test_names_of_all_lengths(self):
        saying = (look_clause(("is", "aaaaaaaa", "a")), part_clause(("list", "aaa", "zzzzzzzz")))
        self.told(saying, ("a", "aaa", "aaaaaaaa", "zzzzzzzz"))

    def test_words_at_the_head_are_no_names(self):
        looks, parts = (("is", "nil", "nil"), ("isnt", "nil", "nil")), (("cell", "nil", "nil"), ("list", "nil", "nil"))
        self.told(((looks, parts),), ())

    def test_as_many_names_as_can_stand(self):
        names = iter(sorted(a + b + c for a in "bcdghjkm" for b in LETTERS for c in LETTERS))
        clauses = []
        used = []
        for _ in range(64):
            triples = []
            for at in range(38):
                pair = next(names), next(names)
                used.extend(pair)
                triples.append(("is" if at < 30 else "list",) + pair[::-1])
            clauses.append((tuple(triples[:30]), tuple(triples[30:])))
        self.assertEqual(len(used), 64 * 38 * 2)
        self.assertFalse([name for name in used if name in WORDS])
        self.told(tuple(reversed(clauses)), tuple(used))

    def test_names_of_a_saying_are_those_of_its_clauses_together(self):
        clauses = [ROW[0], PLAIN[0], (LOOKS, ()), ((), (("list", "a", "result"),)), ((("is", "s", "nil"),), PARTS)]
        for one, other, third in itertools.product(clauses, repeat=3):
            together = {name for clause in (one, other, third) for name in names_in((clause,))}
            self.told((one, other, third), tuple(sorted(together)))


class Calls(unittest.TestCase):
    """By place and by name, twice with equal answers, nothing that is handed in being changed."""

    VALUES = [
        PLAIN, ROW, ROW * 64, ROW * 65, (), None, True, "form", [ROW], {"x": [ROW]}, (ROW[0], [(), ()]), (LOOKS, PARTS),
        (([("is", "x", "y")], ()),), (((["is", "x", "y"],), ()),), (look_clause(("is", "x", ["y"])),),
        (look_clause(("is", {}, "y")),), (PLAIN[0], {"x": [{"y": []}]}),
    ]

    def test_saying_error(self):
        for value in self.VALUES:
            before = copy.deepcopy(value)
            told = saying_error(value)
            self.assertEqual(saying_error(value), told)
            self.assertEqual(saying_error(value=value), told)
            self.assertEqual(saying_error(copy.deepcopy(value)), told)
            self.assertEqual(repr(value), repr(before))

    def test_names_in(self):
        for saying in self.VALUES[:3]:
            before = copy.deepcopy(saying)
            told = names_in(saying)
            self.assertEqual(names_in(saying), told)
            self.assertEqual(names_in(saying=saying), told)
            self.assertEqual(names_in(copy.deepcopy(saying)), told)
            self.assertEqual(repr(saying), repr(before))

    def test_what_was_returned_may_be_handed_in(self):
        self.assertEqual(saying_error(saying_error(None)), "form")
        self.assertEqual(saying_error(saying_error((None,))), ("clause", 0))
        self.assertEqual(saying_error(names_in(ROW)), ("clause", 0))
        self.assertEqual(saying_error(names_in(PLAIN)), "form")

    def test_strings_made_anew(self):
        made = "".join(["re", "sult"]), "".join(["n", "il"]), "".join(["is", "nt"]), "".join(["ce", "ll"])
        saying = ((((made[2], made[0], made[1]),), ((made[3], made[0], made[1]),)),)
        self.assertIsNone(saying_error(saying))
        self.assertEqual(names_in(saying), ("result",))


if __name__ == "__main__":
    unittest.main()
