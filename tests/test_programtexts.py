"""Texts of programs: function_text, read_function, program_text, read_program, as A3, E4 and E5 tell of them."""

import random
import re
import unittest

from examples import wrong_examples
from heldapart.errors import BadText, HeldError, Open
from heldapart.programs import program_error
from heldapart.programtexts import function_text, program_text, read_function, read_program
from heldapart.sayingtexts import read_saying
from making import EMPTY, NO_TUPLES, any_program, function, nested
from shapes import same_twice

EXAMPLES = r"""
    >>> tip = ("tip", ("p",), ("s",), (), (((), (("cell", "p", "s"),)),), (((), (("cell", "p", "nil"),)),), (("put", "p", "nil"),))
    >>> cells = (((), (("cell", "q", "nil"),)),)
    >>> use = ("use", ("q",), (), ("c",), cells, cells, (("call", "c", "tip", ("q",), ("nil",)), ("if", ("any",), (("set", "c", "q"),), ())))
    >>> from heldapart.programtexts import function_text, program_text, read_function, read_program
    >>> function_text(tip), function_text(use)
    ('fun tip(p) with s\n  head cell(p, s)\n  foot cell(p, nil)\n{\n  [p] = nil;\n}', 'fun use(q)\n  var c\n  head cell(q, nil)\n  foot cell(q, nil)\n{\n  c = tip(q; nil);\n  if any {\n    c = q;\n  }\n}')
    >>> read_function("fun tip(p)with s head cell(p,s)foot cell(p,nil){[p]=nil;}") == tip, read_function(function_text(use)) == use
    (True, True)
    >>> read_program(program_text((tip, use))) == (tip, use), program_text((tip, use)) == function_text(tip) + "\n" + function_text(use)
    (True, True)
    >>> turn = read_function("fun turn(p) var a, b head list(p, nil) foot list(result, nil) { a = p; while a != nil keep list(a, nil) * list(result, nil) { b = [a]; [a] = result; result = a; a = b; } }")
    >>> turn[6]
    (('set', 'a', 'p'), ('while', ('isnt', 'a', 'nil'), (((), (('list', 'a', 'nil'), ('list', 'result', 'nil'))),), (('get', 'b', 'a'), ('put', 'a', 'result'), ('set', 'result', 'a'), ('set', 'a', 'b'))))
    >>> read_program(function_text(use))
    raises BadText()
    >>> read_function("fun tip(p) with s head cell(p, s) foot empty { [p] = nil }")
    raises BadText()
"""

HEAD = "fun f(p) with s var w head empty foot empty "
SIGNS = ["(", ")", "[", "]", "{", "}", ",", ";", "=", "!=", "*", "|"]
NO_STRINGS = [value for value in NO_TUPLES if not isinstance(value, str)] + [
    function(), (function(),), ("fun",), [HEAD + "{}"], {HEAD: 1}, BadText(), Open("f", (0,)),
]


def signs_of(text):
    """The words and signs of a text, by other means than the package has."""
    return re.findall("[a-z]+|!=|[^ \n]", text)


def without_empty_else(signs):
    text = " " + " ".join(signs) + " "
    while " else { } " in text:
        text = text.replace(" else { } ", " ", 1)
    return text.split()


class Case(unittest.TestCase):
    def bad(self, text, both=True):
        for read in (read_function, read_program) if both else (read_program,):
            with self.assertRaises(BadText, msg=text) as caught:
                read(text)
            self.assertIs(type(caught.exception), BadText)
            self.assertIsInstance(caught.exception, HeldError)

    def bad_body(self, text):
        self.bad(HEAD + "{ " + text + " }")
        self.bad(HEAD + "{ free(p); " + text + " }")
        self.bad(HEAD + "{ if any { " + text + " } }")
        self.bad(HEAD + "{ while any { } " + text + " free(p); }")

    def body(self, text, statements):
        """The body is read from the text."""
        item = function(body=statements)
        self.assertEqual(read_function(HEAD + "{" + text + "}"), item, text)
        if program_error((item,)) is None:
            self.assertEqual(read_program(HEAD + "{\n" + text + "\n}"), (item,))

    def back(self, program):
        """The texts are read back, also with other blanks."""
        text = program_text(program)
        self.assertEqual(read_program(text), program)
        self.assertEqual(text, "\n".join([function_text(item) for item in program]))
        for item in program:
            self.assertEqual(read_function(function_text(item)), item)
        return text


class Examples(unittest.TestCase):
    def test_examples_as_they_stand_in_the_document(self):
        self.assertEqual(wrong_examples(EXAMPLES), (11, []))


class Texts(Case):
    def test_heads_of_functions(self):
        for params, spares, wheres, first in (
            ((), (), (), "fun f()\n"), (("p",), (), (), "fun f(p)\n"), (("p", "q"), (), (), "fun f(p, q)\n"),
            ((), ("s",), (), "fun f() with s\n"), (("p",), ("s", "t"), (), "fun f(p) with s, t\n"),
            ((), (), ("w",), "fun f()\n  var w\n"), (("p",), ("s",), ("w", "v"), "fun f(p) with s\n  var w, v\n"),
            (("p", "q", "r"), ("s",), ("w",), "fun f(p, q, r) with s\n  var w\n"),
        ):
            item = function(params=params, spares=spares, wheres=wheres)
            self.assertEqual(function_text(item), first + "  head empty\n  foot empty\n{\n}")
            self.back((item,))

    def test_heads_and_feet(self):
        item = function(head=read_saying("p != nil * cell(p, s)"), foot=read_saying("empty | list(result, s) * p = s"))
        self.assertEqual(function_text(item), "fun f(p) with s\n  var w\n  head p != nil * cell(p, s)\n"
                                              "  foot empty | p = s * list(result, s)\n{\n}")
        self.back((item,))

    def test_statements(self):
        for statement, text in (
            (("set", "w", "p"), "w = p;"), (("set", "result", "nil"), "result = nil;"),
            (("new", "w", "p"), "w = new(p);"), (("get", "w", "p"), "w = [p];"), (("put", "p", "w"), "[p] = w;"),
            (("put", "nil", "nil"), "[nil] = nil;"), (("free", "p"), "free(p);"),
            (("call", "w", "f", ("p",), ("s",)), "w = f(p; s);"), (("call", "w", "g", (), ()), "w = g();"),
            (("call", "w", "g", ("p", "nil"), ()), "w = g(p, nil);"), (("call", "w", "g", (), ("s",)), "w = g(; s);"),
            (("call", "result", "g", ("p", "w"), ("s", "nil")), "result = g(p, w; s, nil);"),
            (("call", "w", "g", (), ("s", "s", "p")), "w = g(; s, s, p);"),
        ):
            item = function(body=(statement,))
            self.assertEqual(function_text(item), "fun f(p) with s\n  var w\n  head empty\n  foot empty\n{\n  "
                             + text + "\n}")
            self.body(text, (statement,))
            self.body(text * 3, (statement,) * 3)

    def test_ifs_and_whiles(self):
        free, loop = ("free", "p"), EMPTY
        for statement, text in (
            (("if", ("any",), (), ()), "  if any {\n  }"),
            (("if", ("is", "p", "nil"), (free,), ()), "  if p = nil {\n    free(p);\n  }"),
            (("if", ("isnt", "p", "w"), (free,), (free, free)),
             "  if p != w {\n    free(p);\n  } else {\n    free(p);\n    free(p);\n  }"),
            (("if", ("any",), (), (free,)), "  if any {\n  } else {\n    free(p);\n  }"),
            (("while", ("any",), None, ()), "  while any {\n  }"),
            (("while", ("is", "result", "nil"), loop, ()), "  while result = nil keep empty {\n  }"),
            (("while", ("isnt", "p", "p"), read_saying("p = s | cell(w, s) * w != nil"), (free,)),
             "  while p != p keep p = s | w != nil * cell(w, s) {\n    free(p);\n  }"),
            (("while", ("any",), loop, (("if", ("any",), (free,), (("while", ("any",), None, ()),)), free)),
             "  while any keep empty {\n    if any {\n      free(p);\n    } else {\n      while any {\n      }\n    }\n"
             "    free(p);\n  }"),
        ):
            item = function(body=(statement,))
            self.assertEqual(function_text(item),
                             "fun f(p) with s\n  var w\n  head empty\n  foot empty\n{\n" + text + "\n}")
            self.body(text, (statement,))

    def test_as_deep_as_is_let(self):
        for word in ("if", "while"):
            item = function(body=(nested(4, ("free", "p"), word),))
            text = self.back((item,))
            self.assertIn("\n" + "  " * 5 + "free(p);\n", text)
            inner = HEAD + "{" + "if any {" * 5 + "}" * 5 + "}"
            self.assertEqual(read_function(inner)[6], (self.empty_ifs(5),))
            self.bad(HEAD + "{" + "if any {" * 6 + "}" * 6 + "}")
            self.bad(HEAD + "{" + "while any {" * 5 + "free(p);" + "}" * 5 + "}")

    def empty_ifs(self, many):
        return ("if", ("any",), (self.empty_ifs(many - 1),) if many > 1 else (), ())

    def test_programs(self):
        rows = tuple(function(name="f" * many, body=(("free", "p"),)) for many in range(1, 7))
        for many in range(1, 7):
            text = self.back(rows[:many])
            self.assertEqual(text.count("fun "), many)
        self.bad("\n".join([function_text(function(name="f" * many)) for many in range(1, 8)]))

    def test_random_programs_are_read_back(self):
        source = random.Random(41)
        for _ in range(400):
            program = any_program(source)
            text = self.back(program)
            signs = signs_of(text)
            apart = [" ", "\n", "  ", "\n\n \n"]
            self.assertEqual(read_program(source.choice(apart).join(["", *signs, ""])), program)
            mixed = ""
            for one, other in zip(signs, signs[1:] + [""]):
                mixed += one + source.choice(apart + ([] if one.isalpha() and other.isalpha() else ["", ""]))
            self.assertEqual(read_program(mixed), program)


class Reading(Case):
    def test_blanks_where_they_are_let(self):
        text = "fun f(p) with s var w head cell(p, s) foot p != nil { w = g(p; s); [w] = nil; if any { } else { w = [p]; } }"
        signs = signs_of(text)
        item = read_function(text)
        tight = re.sub(" ?([^a-z ]) ?", r"\1", text).replace("! =", "!=")
        self.assertEqual(read_function(tight), item)
        for between in (" ", "\n", "    ", "\n \n", "\n" * 200):
            self.assertEqual(read_function(between.join(signs)), item)
            self.assertEqual(read_function(between + tight + between), item)

    def test_words_that_run_together(self):
        text = "fun f(p) with s var w head p = s foot empty { w = p; if any { } while any keep empty { } free(p); }"
        self.assertEqual(read_function(text)[0], "f")
        signs = signs_of(text)
        for at in range(len(signs) - 1):
            if signs[at].isalpha() and signs[at + 1].isalpha():
                self.bad(" ".join(signs[:at + 1]) + " ".join(signs[at + 1:]))

    def test_blanks_within_words_and_signs(self):
        text = "fun ff(pp) head pp != nil foot empty { result = pp; if any { free(pp); } }"
        self.assertEqual(read_function(text)[1], ("pp",))
        signs = signs_of(text)
        for at, sign in enumerate(signs):
            for cut in range(1, len(sign)):
                for blank in (" ", "\n"):
                    self.bad(" ".join(signs[:at] + [sign[:cut] + blank + sign[cut:]] + signs[at + 1:]))

    def test_empty_else(self):
        for text in ("if any { } else { }", "if any{}else{}", "if any {\n} else {\n}"):
            self.body(text, (("if", ("any",), (), ()),))
        self.body("if any { free(p); } else { } free(p);", (("if", ("any",), (("free", "p"),), ()), ("free", "p")))
        self.body("if any { if any { } else { } } else { if any { } else { } }",
                  (("if", ("any",), (("if", ("any",), (), ()),), (("if", ("any",), (), ()),)),))
        for text in ("if any { } else", "if any { } else ;", "if any { } else { } else { }", "else { }",
                     "while any { } else { }", "if any else { }", "if any { } else if any { }", "free(p); else { }"):
            self.bad_body(text)

    def test_sayings_are_read_freely(self):
        item = read_function("fun f(p) with s var w head cell(p,s)*p!=nil*s=nil foot list(p,s) * p = s |empty "
                             "{ while any keep cell(w,p) * w != p | list(result, nil) { } }")
        self.assertEqual(item[4], read_saying("p != nil * s = nil * cell(p, s)"))
        self.assertEqual(item[5], read_saying("p = s * list(p, s) | empty"))
        self.assertEqual(item[6][0][2], read_saying("w != p * cell(w, p) | list(result, nil)"))

    def test_sayings_that_are_none(self):
        for text in ("", "empty empty", "empty * p = s", "p ! = s", "p == s", "cell(p, s", "cell(p s)", "p", "p =", "| empty",
                     "empty |", "p = s * ", "cell p, s", "free = p", "cell(p, new)", "p = s;", "(p = s)", "empty }",
                     " * ".join(["p = s"] * 31), " * ".join(["cell(p, s)"] * 9), "p = s p = s", "P = s", "[p] = s"):
            self.bad(f"fun f(p) with s var w head {text} foot empty {{ }}")
            self.bad(f"fun f(p) with s var w head empty foot {text} {{ }}")
            self.bad(f"fun f(p) with s var w head empty foot empty {{ while any keep {text} {{ }} }}")
        self.bad("fun f(p) with s head empty foot " + " | ".join(["empty"] * 65) + " { }")
        self.assertEqual(read_function("fun f() head empty foot " + " | ".join(["empty"] * 64) + " { }")[5], EMPTY * 64)
        self.bad("fun f(p) head empty | empty foot empty { }")
        self.bad("fun f(p) var w head w = p foot empty { }")
        self.bad("fun f(p) var w head result = p foot empty { }")
        self.bad("fun f(p) var w head empty foot w = p { }")
        self.bad("fun f(p) var w head empty foot empty { while any keep x = p { } }")

    def test_bounds(self):
        text = "free(p);"
        self.body(text * 40, (("free", "p"),) * 40)
        self.bad(HEAD + "{" + text * 41 + "}")
        self.bad(HEAD + "{" + text * 2000 + "}")
        self.assertEqual(len(read_function("fun f(a, b, c, d, e) head empty foot empty { }")[1]), 5)
        self.bad("fun f(a, b, c, d, e, g) head empty foot empty { }")
        for many in (2, 3, 7, 100, 700, 2000):
            for text in ("if any {", "while any {", "if any { } else {", "while any keep empty {"):
                if many * len(text) < 17000:
                    self.bad(HEAD + "{" + text * many * 3 + "}" * many * 3 + "}")
                    self.bad(HEAD + "{" + text * many * 3)
            self.bad("fun f() head empty foot empty { }\n" * many)

    def test_calls_that_fit_nothing(self):
        for text in ("w = f();", "w = g();", "w = f(p; s, s);", "w = f(p, p; s);", "w = other(p; s);"):
            item = read_function(HEAD + "{" + text + "}")
            self.assertEqual(program_error((item,)), ("call", 0, (0,)))
            with self.assertRaises(BadText):
                read_program(HEAD + "{" + text + "}")
        self.assertEqual(len(read_program(HEAD + "{ w = f(p; s); }")), 1)
        self.assertEqual(len(read_program(HEAD + "{ w = g(); } fun g() head empty foot empty { result = f(nil; nil); }")), 2)
        self.bad(HEAD + "{ w = g(); } fun g() head empty foot empty { w = f(nil; nil); }")
        self.bad(HEAD + "{ } " + HEAD + "{ }")

    def test_one_function_is_no_two(self):
        text = HEAD + "{ }"
        two = text + " fun g() head empty foot empty { }"
        self.assertEqual(len(read_program(two)), 2)
        with self.assertRaises(BadText):
            read_function(two)
        self.assertEqual(read_program(text), (read_function(text),))


class BadTexts(Case):
    def test_no_strings_and_nothing(self):
        for value in NO_STRINGS:
            self.bad(value)
        for text in ("", " ", "\n", " \n " * 1000, "fun", "fun f", "fun f(", "fun f()", "empty", "{", "}", "{ }", "x"):
            self.bad(text)

    def test_heads_that_are_none(self):
        end = " head empty foot empty { }"
        for text in ("fun f", "fun f(", "fun f)", "fun (p)", "fun f(p", "fun f p)", "fun f(p,)", "fun f(,p)", "fun f(,)",
                     "fun f(p q)", "fun f(p; q)", "fun f(p))", "fun f((p)", "f(p)", "fun fun f(p)", "fun f g(p)",
                     "fun f(p) with", "fun f(p) with with s", "fun f(p) with s,", "fun f(p) with , s", "fun f(p) with s t",
                     "fun f(p) var", "fun f(p) var w,", "fun f(p) var w v", "fun f(p) with s with t", "fun f(p) var w var v",
                     "fun f(p) var w with s", "fun f(p) with (s)", "fun f(p) var w;", "fun f(p);", "fun f[p]", "fun nil(p)",
                     "fun result(p)", "fun new(p)", "fun f(nil)", "fun f(result)", "fun f(p) with result",
                     "fun f(p) var result", "fun f(p) with nil", "fun f(p) var if", "fun f(p, p)", "fun f(p) with p",
                     "fun f(p) var p", "fun abcdefghi(p)", "fun f(abcdefghi)", "fun F(p)", "fun f(P)", "fun f(p) with s1",
                     "Fun f(p)", "fun f(p) head empty", "fun f(p) foot empty", "fun f(=)", "fun f(p) var *"):
            self.bad(text + end)
        self.assertEqual(read_function("fun f(p)" + end)[0], "f")
        for text in ("fun f(p) foot empty head empty { }", "fun f(p) head empty { }", "fun f(p) foot empty { }",
                     "fun f(p) head foot empty { }", "fun f(p) head empty foot { }", "fun f(p) { }", "fun f(p) head empty",
                     "fun f(p) head empty foot empty", "fun f(p) head empty foot empty {", "fun f(p) head empty foot empty }",
                     "fun f(p) head empty foot empty { } }", "fun f(p) head empty foot empty { { }",
                     "fun f(p) head empty foot empty { };", "fun f(p) head empty foot empty { } empty",
                     "fun f(p) head empty foot empty foot empty { }", "fun f(p) head empty head empty foot empty { }"):
            self.bad(text)

    def test_statements_that_are_none(self):
        for text in (
            "w = p", "w p;", "w = ;", "= p;", "w = p p;", "w == p;", "w != p;", "w = p = s;", ";", "w;", "w = p;;", "p = w;",
            "s = w;", "nil = w;", "x = w;", "w = s;", "w = x;", "w = (p);", "w = new;", "w = new();", "w = new p;",
            "w = new(p, p);", "w = new(s);", "w = new(p; s);", "w = new((p));", "new(p);", "w = new[p];", "w = [];",
            "w = [p;", "w = p];", "w = [s];", "w = [[p]];", "w = [p] p;", "[p] = ;", "[p] w;", "[] = w;", "[p = w;",
            "p] = w;", "[s] = w;", "[p] = s;", "[p] = [w];", "[p] = new(w);", "[p]] = w;", "[p] != w;", "[p];", "free p;",
            "free();", "free(p)", "free(p, w);", "free(s);", "free[p];", "w = free(p);", "free(p;);", "free = p;",
            "w = f;w", "w = f(;", "w = f);", "w = f(p;);", "w = f(p,; s);", "w = f(, p; s);", "w = f(p; s,);",
            "w = f(p; , s);", "w = f(p; s; s);", "w = f(p w; s);", "w = f(;);", "w = f((p); s);", "w = f(s; s);",
            "w = f(x; s);", "w = f(p; x);", "f(p; s);", "p = f(p; s);", "w = f[p; s];", "w = nil(p; s);",
            "w = result(p; s);", "w = if(p; s);", "w = f(p; s)", "w = f(f(p; s); s);", "w = cell(p, w);", "w = f(p: s);",
            "if { }", "if any", "if any {", "if any }", "if p { }", "if p = { }", "if = p { }", "if p = w", "if (any) { }",
            "if any = p { }", "if p == w { }", "if p = s { }", "if s != p { }", "if x = p { }", "if any { };", "if nil { }",
            "if p = w = w { }", "if any any { }", "if p != w keep empty { }", "if any keep empty { }", "if p is w { }",
            "if p = w * p = w { }", "if any { w }", "if any { w = p }", "if any { free(p); ", "if empty { }",
            "while { }", "while any", "while any {", "while p { }", "while p = s { }", "while any keep { }",
            "while keep empty { }", "while any empty { }", "while any keep empty", "while any keep empty keep empty { }",
            "while any keep empty { };", "while p = w * w = p { }", "keep empty { }", "while any { w = p }", "any;",
            "head empty", "fun g() head empty foot empty { }", "var x", "is", "p", "{ }", "{", "}", "( )", "!", "w ! = p;",
            "if p ! = w { }", "w = p; // told", "w = p # told", "w = 0;", "w = p.q;", "w = 'p';", "W = p;", "w = P;",
            "result = nil nil;", "abcdefghi = p;", "w = abcdefghi;", "w = abcdefghi(p; s);",
        ):
            self.bad_body(text)

    def test_signs_that_no_program_has(self):
        good = HEAD + "{ w = p; }"
        self.assertEqual(len(read_program(good)), 1)
        for code in list(range(128)) + [0x85, 0xa0, 0xe9, 0x2028, 0x3000, 0xff57]:
            sign = chr(code)
            if sign in " \n" or sign in "()[]{},;=!*|" or "a" <= sign <= "z":
                continue
            for at in (0, 3, 5, 9, len(HEAD), len(good) - 4, len(good)):
                self.bad(good[:at] + sign + good[at:])

    def test_one_sign_left_out_doubled_put_in_or_exchanged(self):
        text = ("fun f(p) with s var w head p = s foot empty { w = f(p; s); [w] = p; w = [p]; w = new(p); free(p); "
                "if p != w { } else { w = p; } while any keep empty { } }")
        signs = signs_of(text)
        item = read_function(text)
        for at in range(len(signs)):
            for row in ([], [signs[at]] * 2, *[[sign] for sign in SIGNS + ["nil", "w", "any", "new", "if", "else"]],
                        *[[sign, signs[at]] for sign in SIGNS + ["nil", "w", "any", "keep", "with"]]):
                self.looked_at(signs[:at] + row + signs[at + 1:], item)
            if at:
                self.looked_at(signs[:at - 1] + [signs[at], signs[at - 1]] + signs[at + 1:], item)

    def looked_at(self, signs, item):
        """What is read at all has these words and signs, but for order in clauses and an empty else."""
        try:
            got = read_function(" ".join(signs))
        except BadText:
            with self.assertRaises(BadText):
                read_program(" ".join(signs))
            return 0
        self.assertIn((program_error((got,)) or ("call",))[0], ("call",))
        self.assertEqual(sorted(signs_of(function_text(got))), sorted(without_empty_else(signs)), signs)
        self.assertEqual(got == item, signs_of(function_text(got)) == signs_of(function_text(item)))
        return 1

    def test_random_programs_with_one_sign_changed(self):
        source = random.Random(43)
        good = 0
        for _ in range(3000):
            program = any_program(source, 2)
            signs = signs_of(program_text(program))
            at, to = source.randrange(len(signs)), source.randrange(len(signs))
            changed = source.choice((signs[:at] + signs[at + 1:], signs[:at] + [signs[to]] + signs[at:],
                                     signs[:at] + [signs[to]] + signs[at + 1:]))
            try:
                got = read_program(" ".join(changed))
            except BadText:
                continue
            good += 1
            self.assertIsNone(program_error(got))
            self.assertEqual(sorted(signs_of(program_text(got))), sorted(without_empty_else(changed)))
            self.assertEqual(read_program(program_text(got)), got)
        self.assertGreater(good, 50)

    def test_thousands_of_signs(self):
        for text in ("(" * 20000, "fun f(" * 3000, "fun f(" + "p," * 9000, "{" * 20000, "}" * 20000, "if any {" * 2400,
                     "fun " * 5000, HEAD + "{" * 19000, HEAD + "{ w = f(" * 10, HEAD + "{ w = f(" + "p," * 9000,
                     "fun f() head " + "p=s*" * 4900, "fun f() head " + "foot " * 3900, HEAD + "{" + ";" * 19000,
                     HEAD + "{" + "while any keep " * 1200, "!=" * 10000, "x" * 20000, "fun f() with " + "s" * 19000):
            self.bad(text)


class Calls(Case):
    def test_by_place_and_by_name_twice(self):
        program = any_program(random.Random(3))
        text = same_twice(self, program_text, {"program": program})
        self.assertEqual(same_twice(self, read_program, {"value": text}), program)
        text = same_twice(self, function_text, {"function": program[0]})
        self.assertEqual(same_twice(self, read_function, {"value": text}), program[0])
        for value in NO_STRINGS + [""]:
            before = repr(value)
            for read in (read_function, read_program) * 2:
                with self.assertRaises(BadText):
                    read(value=value)
            self.assertEqual(repr(value), before)

    def test_what_is_read_is_made_of_tuples(self):
        todo = [read_program(HEAD + "{ while any keep empty { w = f(p; s); if any { } else { free(w); } } }")]
        while todo:
            value = todo.pop()
            self.assertIn(type(value), (tuple, str))
            todo.extend(value if type(value) is tuple else ())


if __name__ == "__main__":
    unittest.main()
