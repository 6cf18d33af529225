"""Texts of sayings: saying_text and read_saying, as A3, A6 and A7 tell of them."""

import copy
import itertools
import random
import unittest

from examples import wrong_examples
from heldapart.errors import BadText, HeldError, Open
from heldapart.sayings import names_in, saying_error
from heldapart.sayingtexts import read_saying, saying_text

EXAMPLES = r"""
    >>> plain, row = (((), ()),), (((("isnt", "x", "nil"),), (("cell", "x", "y"), ("list", "y", "nil"))),)
    >>> from heldapart.sayingtexts import read_saying, saying_text
    >>> saying_text(row), saying_text(plain), saying_text(plain + row)
    ('x != nil * cell(x, y) * list(y, nil)', 'empty', 'empty | x != nil * cell(x, y) * list(y, nil)')
    >>> read_saying("list(y,nil)*x!=nil\n * cell( x ,y )") == (((("isnt", "x", "nil"),), (("list", "y", "nil"), ("cell", "x", "y"))),)
    True
    >>> read_saying(" empty\n") == plain, read_saying("x = nil | x != nil") == (((("is", "x", "nil"),), ()), ((("isnt", "x", "nil"),), ())), read_saying(saying_text(row)) == row
    (True, True, True)
    >>> read_saying("empty * x = y")
    raises BadText()
    >>> read_saying("x ! = y")
    raises BadText()
    >>> read_saying("new = nil")
    raises BadText()
    >>> read_saying("cell(x, y) |")
    raises BadText()
"""

PLAIN = (((), ()),)
ROW = (((("isnt", "x", "nil"),), (("cell", "x", "y"), ("list", "y", "nil"))),)
LOOKS = (("is", "x", "y"), ("isnt", "result", "nil"))
PARTS = (("cell", "x", "result"), ("list", "nil", "abcdefgh"))
NOT_IN_SAYINGS = "fun head foot with var if else while keep new free any cell list empty is isnt".split()
TERMS = ["nil", "result", "x", "y", "as", "lists", "cel", "isnta", "empties", "abcdefgh", "z"]
NO_STRINGS = [
    None, True, False, 0, 1, -7, 10 ** 399, (), ("empty",), ["empty"], [], {}, {"empty": 1}, {1: "empty"}, PLAIN, ROW,
    ((), ()), BadText(), Open("x", (0,)), (("x", "=", "y"),), ["x", "=", "y"], [[["x = y"]]],
]


def random_saying(source):
    """Any saying, of few clauses mostly, and at times of as much as is let."""
    most = source.choice(((1, 1, 1), (2, 2, 2), (4, 30, 8), (64, 3, 3)))
    clauses = []
    for _ in range(source.randint(1, most[0])):
        looks = [(source.choice(("is", "isnt")),) + pair(source) for _ in range(source.randint(0, most[1]))]
        parts = [(source.choice(("cell", "list")),) + pair(source) for _ in range(source.randint(0, most[2]))]
        clauses.append((tuple(looks), tuple(parts)))
    return tuple(clauses)


def pair(source):
    return source.choice(TERMS), source.choice(TERMS)


class Case(unittest.TestCase):
    def bad(self, value):
        with self.assertRaises(BadText) as caught:
            read_saying(value)
        self.assertIs(type(caught.exception), BadText)
        self.assertIsInstance(caught.exception, HeldError)
        self.assertEqual(caught.exception.args, ())

    def tells(self, text, saying):
        told = read_saying(text)
        self.assertEqual(told, saying, text)
        self.assertIsNone(saying_error(told), text)


class Examples(unittest.TestCase):
    def test_examples_as_they_stand_in_the_document(self):
        self.assertEqual(wrong_examples(EXAMPLES), (9, []))


class Texts(Case):
    def test_texts_of_looks_and_parts(self):
        for term, other in itertools.product(TERMS, repeat=2):
            for looks, parts, text in (
                ((("is", term, other),), (), f"{term} = {other}"),
                ((("isnt", term, other),), (), f"{term} != {other}"),
                ((), (("cell", term, other),), f"cell({term}, {other})"),
                ((), (("list", term, other),), f"list({term}, {other})"),
            ):
                self.assertEqual(saying_text(((looks, parts),)), text)
                self.tells(text, ((looks, parts),))

    def test_looks_stand_ahead_of_parts_in_their_order(self):
        self.assertEqual(
            saying_text(((LOOKS, PARTS),)),
            "x = y * result != nil * cell(x, result) * list(nil, abcdefgh)",
        )
        self.assertEqual(
            saying_text(((LOOKS[::-1], PARTS[::-1]),)),
            "result != nil * x = y * list(nil, abcdefgh) * cell(x, result)",
        )
        self.assertEqual(saying_text(((LOOKS[:1] * 2, PARTS[:1] * 2),)), "x = y * x = y" + " * cell(x, result)" * 2)

    def test_empty_clauses(self):
        self.assertEqual(saying_text(PLAIN), "empty")
        self.assertEqual(saying_text(PLAIN * 3), "empty | empty | empty")
        self.assertEqual(
            saying_text(ROW + PLAIN + ROW),
            "x != nil * cell(x, y) * list(y, nil) | empty | x != nil * cell(x, y) * list(y, nil)",
        )

    def test_one_clause_and_sixty_four(self):
        for many in (1, 2, 63, 64):
            text = saying_text(ROW * many)
            self.assertEqual(text, " | ".join([saying_text(ROW)] * many))
            self.tells(text, ROW * many)
            self.assertEqual(saying_text(PLAIN * many), " | ".join(["empty"] * many))

    def test_numbers_of_looks_and_parts(self):
        for looks, parts in itertools.product((0, 1, 29, 30), (0, 1, 7, 8)):
            saying = ((LOOKS[:1] * looks, PARTS[1:] * parts),)
            texts = ["x = y"] * looks + ["list(nil, abcdefgh)"] * parts
            self.assertEqual(saying_text(saying), " * ".join(texts) or "empty")
            self.tells(saying_text(saying), saying)

    def test_greatest_saying(self):
        saying = (((("isnt", "abcdefgh", "result"),) * 30, (("list", "zzzzzzzz", "nil"),) * 8),) * 64
        text = saying_text(saying)
        self.assertEqual(len(text), 64 * (30 * 18 + 8 * 19 + 37 * 3) + 63 * 3)
        self.tells(text, saying)

    def test_unlike_sayings_have_unlike_texts_and_are_read_back(self):
        source = random.Random(5)
        texts = {}
        for _ in range(1500):
            saying = random_saying(source)
            text = saying_text(saying)
            self.assertEqual(texts.setdefault(text, saying), saying)
            self.tells(text, saying)
            self.assertEqual(saying_text(read_saying(text)), text)
        self.assertGreater(len(texts), 1000)


class Reading(Case):
    def test_no_blanks_at_all(self):
        self.tells("x!=nil*cell(x,y)*list(y,nil)", ROW)
        self.tells("empty|empty", PLAIN * 2)
        self.tells("x=y|x!=y", (((("is", "x", "y"),), ()), ((("isnt", "x", "y"),), ())))

    def test_blanks_and_line_feeds_stand_anywhere_between(self):
        signs = ["x", "!=", "nil", "*", "cell", "(", "x", ",", "y", ")", "*", "list", "(", "y", ",", "nil", ")"]
        for between in ("", " ", "\n", "   ", "\n\n", " \n ", "\n \n", " " * 500, "\n" * 300):
            self.tells(between.join(signs), ROW)
            self.tells(between + between.join(signs) + between, ROW)
            self.tells(between + "empty" + between, PLAIN)
            self.tells(between + "empty" + between + "|" + between + "empty" + between, PLAIN * 2)
            for at in range(len(signs) + 1):
                self.tells("".join(signs[:at]) + between + "".join(signs[at:]), ROW)

    def test_looks_and_parts_in_any_order(self):
        texts = ["x != nil", "cell(x, y)", "list(y, nil)", "x = y"]
        for order in itertools.permutations(texts):
            looks = tuple([{"x != nil": ("isnt", "x", "nil"), "x = y": ("is", "x", "y")}[text]
                           for text in order if "=" in text])
            parts = tuple([(text[:4],) + tuple(text[5:-1].split(", ")) for text in order if "(" in text])
            self.tells(" * ".join(order), ((looks, parts),))
            self.tells("empty|" + "*".join(order) + "|empty", PLAIN + ((looks, parts),) + PLAIN)

    def test_mixed_sayings_at_random(self):
        source = random.Random(7)
        for _ in range(400):
            saying = random_saying(source)
            texts = []
            for clause in saying:
                rows = [[saying_text((((look,), ()),)) for look in clause[0]],
                        [saying_text((((), (part,)),)) for part in clause[1]]]
                mixed = []
                while rows[0] or rows[1]:
                    kind = source.choice([kind for kind in (0, 1) if rows[kind]])
                    mixed.append(rows[kind].pop(0))
                texts.append("*".join(mixed) or "empty")
            text = " |".join(texts)
            for sign in "(),*|":
                text = text.replace(sign, source.choice(("", " ", "\n")) + sign + source.choice(("", "  ", "\n")))
            self.tells(text, saying)

    def test_words_that_begin_like_words_of_the_language(self):
        for term in ("cells", "cel", "lists", "lis", "emptya", "empt", "nils", "ni", "results", "isx", "a", "newer"):
            self.tells(f"{term} = {term}", (((("is", term, term),), ()),))
            self.tells(f"cell({term},{term})", (((), (("cell", term, term),)),))

    def test_bounds(self):
        look, part = "x = y", "cell(x, y)"
        for many in (1, 29, 30):
            self.tells(" * ".join([look] * many), (((("is", "x", "y"),) * many, ()),))
        for many in (31, 32, 1000):
            self.bad(" * ".join([look] * many))
            self.bad("empty | " + " * ".join([look] * many + [part]))
        for many in (1, 7, 8):
            self.tells(" * ".join([part] * many), (((), (("cell", "x", "y"),) * many),))
        for many in (9, 10, 38, 1000):
            self.bad(" * ".join([part] * many))
            self.bad(" * ".join([look] + [part] * many) + " | empty")
        self.tells(" * ".join([look, part] * 8 + [look] * 22), (((("is", "x", "y"),) * 30, (("cell", "x", "y"),) * 8),))
        self.bad(" * ".join([look, part] * 8 + [look] * 23))
        for many in (1, 63, 64):
            self.tells(" | ".join(["empty"] * many), PLAIN * many)
            self.tells(" | ".join([look] * many), (((("is", "x", "y"),), ()),) * many)
        for many in (65, 66, 1000):
            self.bad(" | ".join(["empty"] * many))
            self.bad(" | ".join([look] * many))

    def test_what_any_text_tells_is_its_text_but_for_the_order(self):
        source = random.Random(11)
        signs = ["x", "y", "nil", "=", "!=", "*", "|", "(", ")", ",", "cell", "list", "empty"]
        good = 0
        for _ in range(30000):
            row = [source.choice(signs) for _ in range(source.randint(1, 7))]
            try:
                saying = read_saying(" ".join(row))
            except BadText:
                continue
            good += 1
            self.assertIsNone(saying_error(saying))
            self.assertEqual(sorted(saying_text(saying).replace(" ", "")), sorted("".join(row)))
        self.assertGreater(good, 20)


class BadTexts(Case):
    def test_no_strings(self):
        for value in NO_STRINGS:
            self.bad(value)
        self.bad(read_saying("x = y"))
        self.bad(saying_error(None) and saying_error((None,)))

    def test_nothing_told(self):
        for text in ("", " ", "\n", " \n \n", " " * 20000, "\n" * 20000):
            self.bad(text)

    def test_clauses_told_by_nothing(self):
        for text in ("|", "||", "empty |", "| empty", "empty || empty", "empty | | empty", "x = y |", "| x = y",
                     "x = y || x = y", "x = y | \n", "|" * 20000, "| |"):
            self.bad(text)

    def test_empty_stands_alone_in_its_clause(self):
        for text in ("empty empty", "empty * empty", "empty * x = y", "x = y * empty", "x = y * empty * x = y",
                     "empty x = y", "x = y empty", "cell(x, y) * empty", "empty * list(x, y)", "empty()", "empty(x, y)",
                     "(empty)", "empty = x", "x = empty", "x != empty", "cell(empty, x)", "list(x, empty)", "empty *",
                     "* empty", "empty,", "emptyempty", "x = y | empty * x = y", "Empty", "EMPTY", "empt y"):
            self.bad(text)

    def test_signs_that_are_parted_or_doubled(self):
        for text in ("x ! = y", "x !\n= y", "x == y", "x = = y", "x !== y", "x != = y", "x =!= y", "x = != y",
                     "x != != y", "x !!= y", "x ! y", "x !", "!", "!=", "=", "! =", "x =! y", "x <> y", "x ==! y"):
            self.bad(text)

    def test_words_of_the_language_are_no_terms(self):
        for word in NOT_IN_SAYINGS:
            for text in ("{} = x", "x = {}", "{} != x", "x != {}", "cell({}, x)", "cell(x, {})", "list({}, x)",
                         "list(x, {})", "{0} = {0}", "x = y * {} = x", "empty | {} = x"):
                self.bad(text.format(word))

    def test_names_that_are_none(self):
        for word in ("abcdefghi", "resultss", "result result", "x y", "z" * 9, "a" * 19000, "X", "xY", "Nil", "x1",
                     "1", "x_", "_", "0", "x'", "'x'", "\"x\"", "nil nil", "lists cells"):
            good = len(word) <= 8 and word.isalpha() and word.islower()
            for text in ("{} = x", "x = {}", "cell({}, x)", "list(x, {})", "x != {} * empty"):
                if not good:
                    self.bad(text.format(word))
        self.bad("abcdefgh abcdefgh = x")
        self.bad("abcdefghabcdefgh = x")

    def test_signs_that_stand_in_no_saying(self):
        for code in range(0, 256):
            sign = chr(code)
            if sign in "=!(),*| \n" or sign.islower() and code < 128:
                continue
            for text in (sign, "x = y" + sign, sign + "x = y", "x " + sign + " y", "x = y " + sign + " x = y",
                         "x =" + sign + "y", "cell(x" + sign + ", y)", "empty" + sign, "x" + sign + "= y"):
                self.bad(text)
        for sign in "[]{};&+-./:<>?@^_`~#$%\t\r\x0b\x0c\0\x85\xa0\u2028\u3000\u00e9\u0661":
            self.bad("x = y" + sign)
            self.bad("x =" + sign + " y")

    def test_brackets_and_commas(self):
        for text in ("cell x, y)", "cell(x, y", "cell(x y)", "cell(x)", "cell()", "cell(,)", "cell(x,)", "cell(,y)",
                     "cell", "cell x y", "cell((x, y)", "cell(x, y))", "cell((x, y))", "cell(x,, y)", "cell(x, y,)",
                     "cell(,x, y)", "cell(x, y, z)", "(cell(x, y))", "cell(x), y", "cell, x, y", "(x, y)", "x, y",
                     "cell)x, y(", "cell(x = y)", "cell(x * y)", "cell(x | y)", "cell(cell(x, y), z)", "(x = y)",
                     "(x) = y", "x = (y)", "x = cell(x, y)", "cell(x, y) = x", "cell list(x, y)", "cells(x, y)",
                     "nil(x, y)", "x(x, y)", "is(x, y)", "isnt(x, y)", "Cell(x, y)", "celllist(x, y)", "cell(x;y)"):
            self.bad(text)
            self.bad(text.replace("cell", "list"))
            self.bad("empty | " + text)
            self.bad(text + " | empty")
            self.bad("x = y * " + text)

    def test_looks_that_are_none(self):
        for text in ("x", "x =", "= x", "x y", "x = y z", "x = y = z", "x = y != z", "x is y", "is x y", "isnt(x, y)",
                     "x * y", "x = * y", "nil", "result", "x = y, z = u", "x = y x = y", "x = y\nx = y"):
            self.bad(text)
            self.bad("cell(x, y) * " + text)

    def test_stars(self):
        for text in ("*", "* x = y", "x = y *", "x = y ** x = y", "x = y * * x = y", "x = y * | x = y",
                     "x = y | * x = y", "*" * 20000):
            self.bad(text)

    def test_thousands_of_signs(self):
        for text in ("x=y*" * 5000, "empty|" * 3000, "(" * 20000, "cell(" * 4000, "=" * 20000, "!=" * 10000,
                     "x " * 10000, "x" * 20000, "x=" * 10000, ",)" * 10000, "cell(x,y)*" * 1900 + "x=y"):
            self.bad(text)

    def test_one_sign_left_out_put_in_or_exchanged(self):
        signs = ["x", "!=", "nil", "*", "cell", "(", "x", ",", "y", ")", "|", "empty"]
        self.tells(" ".join(signs), (((("isnt", "x", "nil"),), (("cell", "x", "y"),)),) + PLAIN)
        for at in range(len(signs)):
            self.bad(" ".join(signs[:at] + signs[at + 1:]))
            self.bad(" ".join(signs[:at] + [signs[at]] * 2 + signs[at + 1:]))
        for at in range(len(signs) + 1):
            for sign in ("x", "nil", "=", "!=", "*", "|", "(", ")", ",", "cell", "empty", "[", "{", "}", ";"):
                self.bad(" ".join(signs[:at] + [sign] + signs[at:]))


class Calls(Case):
    def test_by_place_and_by_name_twice(self):
        for saying in (PLAIN, ROW, PLAIN + ROW * 3, ((LOOKS, PARTS),)):
            before = copy.deepcopy(saying)
            text = saying_text(saying)
            self.assertIs(type(text), str)
            self.assertEqual(saying_text(saying=saying), text)
            self.assertEqual(saying_text(copy.deepcopy(saying)), text)
            self.assertEqual(saying, before)
            self.assertEqual(read_saying(value=text), saying)
            self.assertEqual(read_saying(text), read_saying(text))
        for value in NO_STRINGS + ["", "x"]:
            before = repr(value)
            for _ in (0, 1):
                self.bad(value)
                with self.assertRaises(BadText):
                    read_saying(value=value)
            self.assertEqual(repr(value), before)

    def test_what_is_told_is_made_of_tuples(self):
        for text in ("empty", "x = y * cell(x, y) | list(x, y)"):
            todo = [read_saying(text)]
            while todo:
                value = todo.pop()
                self.assertIn(type(value), (tuple, str))
                todo.extend(value if type(value) is tuple else ())

    def test_names_of_what_was_read(self):
        self.assertEqual(names_in(read_saying("b = a | list(result, c) * nil != nil")), ("a", "b", "c", "result"))


if __name__ == "__main__":
    unittest.main()
