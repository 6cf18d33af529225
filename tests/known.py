"""Programs that are known to be right, small changes of them that are not, and small programs at random."""

import re

from heldapart.programtexts import read_program
from heldapart.sayingtexts import read_saying

RIGHT = {
    "turn": "fun turn(p) var a, b head list(p, nil) foot list(result, nil) { a = p; "
            "while a != nil keep list(a, nil) * list(result, nil) { b = [a]; [a] = result; result = a; a = b; } }",
    "walk": "fun walk(p) var a head list(p, nil) foot list(p, nil) { a = p; "
            "while a != nil keep list(p, a) * list(a, nil) { a = [a]; } }",
    "join": "fun join(x, y) var a, b head list(x, nil) * list(y, nil) foot list(result, nil) "
            "{ if x = nil { result = y; } else { result = x; a = x; b = [a]; "
            "while b != nil keep a != nil * list(result, a) * cell(a, b) * list(b, nil) * list(y, nil) "
            "{ a = b; b = [a]; } [a] = y; } }",
    "copy": "fun copy(p) var a head list(p, nil) foot list(p, nil) * list(result, nil) { a = p; "
            "while a != nil keep list(p, a) * list(a, nil) * list(result, nil) { result = new(result); a = [a]; } }",
    "drop": "fun drop(p) var a, b head list(p, nil) foot result = nil { a = p; "
            "while a != nil keep result = nil * list(a, nil) { b = [a]; free(a); a = b; } }",
    "ring": "fun ring(p) var a head p != nil * list(p, nil) foot cell(result, p) * list(p, result) | "
            "p = result * cell(p, p) { result = p; a = [p]; "
            "while a != nil keep result = p * p != nil * cell(p, a) * list(a, nil) | "
            "result != p * p != nil * list(p, result) * cell(result, a) * list(a, nil) { result = a; a = [a]; } "
            "[result] = p; }",
    "turnto": "fun turnto(p, q) var a head list(p, nil) * list(q, nil) foot list(result, nil) "
              "{ if p = nil { result = q; } else { a = [p]; [p] = q; result = turnto(a, p); } }",
    "walkr": "fun walkr(p) var a head list(p, nil) foot list(p, nil) { if p != nil { a = [p]; a = walkr(a); } }",
    "joinr": "fun joinr(x, y) var a head list(x, nil) * list(y, nil) foot list(result, nil) "
             "{ if x = nil { result = y; } else { a = [x]; a = joinr(a, y); [x] = a; result = x; } }",
    "copyr": "fun copyr(p) var a head list(p, nil) foot list(p, nil) * list(result, nil) "
             "{ if p != nil { a = [p]; a = copyr(a); result = new(a); } }",
    "dropr": "fun dropr(p) var a head list(p, nil) foot empty { if p != nil { a = [p]; free(p); a = dropr(a); } }",
    "ahead": "fun ahead(p) with s head cell(p, s) foot result = s * cell(p, s) { result = [p]; }",
    "second": "fun second(p) with s, t head cell(p, s) * cell(s, t) foot cell(p, s) * cell(s, t) * result = t "
              "{ result = ahead(p; s); result = ahead(result; t); } "
              "fun ahead(p) with s head cell(p, s) foot result = s * cell(p, s) { result = [p]; }",
    "all": "fun all(p, q) var a head list(p, nil) * list(q, nil) foot empty { a = turn(p); a = join(a, q); a = drop(a); } "
           "fun turn(p) head list(p, nil) foot list(result, nil) { result = turn(p); } "
           "fun join(p, q) head list(p, nil) * list(q, nil) foot list(result, nil) { result = join(q, p); } "
           "fun drop(p) head list(p, nil) foot result = nil { while any keep result = nil * list(p, nil) { } "
           "result = drop(p); }",
}

# The name of a right one, and what is changed: these go wrong.
WRONG = [
    ("turn", " a = b; } }", " } }"), ("turn", "[a] = result; result = a;", "result = a; [a] = result;"),
    ("turn", "while a != nil", "while b != nil"), ("turn", "foot list(result, nil)", "foot cell(result, nil)"),
    ("turn", "keep list(a, nil) * list(result, nil)", "keep list(a, nil)"), ("turn", "b = [a]; ", ""),
    ("turn", "head list(p, nil)", "head empty"), ("turn", "while a != nil", "while any"), ("turn", "a = p; ", ""),
    ("turn", "foot list(result, nil)", "foot list(p, nil)"), ("walk", "while a != nil", "while any"),
    ("walk", "foot list(p, nil)", "foot p != nil * list(p, nil)"), ("walk", "list(a, nil) {", "cell(a, nil) {"),
    ("join", " [a] = y;", ""), ("join", "if x = nil", "if y = nil"),
    ("join", "b = [a]; } [a] = y;", "b = [a]; } [a] = x;"), ("copy", "new(result)", "new(nil)"),
    ("copy", "new(result)", "new(a)"), ("copy", "foot list(p, nil) * ", "foot "), ("drop", "free(a); ", ""),
    ("drop", "b = [a]; free(a);", "free(a); b = [a];"), ("drop", "a = b; } }", "} }"),
    ("drop", "free(a);", "free(b);"), ("ring", " [result] = p;", ""), ("ring", "head p != nil * ", "head "),
    ("turnto", "[p] = q; ", ""), ("turnto", "turnto(a, p)", "turnto(a, q)"), ("turnto", "if p = nil", "if any"),
    ("turnto", "turnto(a, p)", "turnto(a, a)"), ("walkr", "if p != nil", "if any"),
    ("walkr", "foot list(p, nil)", "foot empty"), ("joinr", " [x] = a;", ""), ("joinr", "joinr(a, y)", "joinr(x, y)"),
    ("joinr", "joinr(a, y)", "joinr(a, x)"), ("copyr", "result = new(a); ", ""), ("copyr", "new(a)", "new(nil)"),
    ("dropr", "free(p); ", ""), ("dropr", "a = [p]; free(p);", "free(p); a = [p];"), ("dropr", " a = dropr(a);", ""),
    ("ahead", "head cell(p, s)", "head cell(p, nil)"), ("ahead", "result = [p];", "result = p;"),
    ("second", "ahead(result; t)", "ahead(result; s)"), ("second", "ahead(p; s);", "ahead(p; nil);"),
    ("all", "a = drop(a);", ""), ("all", "join(a, q)", "join(a, p)"), ("all", "join(a, q)", "join(a, a)"),
]
# These tell less, or never end, and are right all the same.
STILL_RIGHT = [
    ("walk", "a = [a];", "a = [p];"), ("join", "{ a = b;", "{"), ("join", "keep a != nil * ", "keep "),
    ("copy", "result = new(result); ", ""), ("copyr", "copyr(a)", "copyr(nil)"),
]

# Of what comes to the while of the first no saying tells; to that of the second 65 clauses and more come; the third
# has a keep with more than 8192 cases.
SPOILT = ("fun spoilt(p) var a, b head empty foot empty { a = new(nil); b = new(a); free(a); a = nil; "
          "while any { b = b; } }")
MANY = ("fun many(a, b) var c, d, e head empty foot empty { while any { if any { c = a; } if any { c = b; } "
        "if any { d = c; } if any { e = d; } if any { result = e; } if any { e = nil; } if any { d = e; } "
        "if any { c = nil; } } }")
OVER = "fun over(a, b) var c, d, e head empty foot empty { while any keep list(a, nil) | list(b, nil) { } while any { } }"


def right(name):
    return read_program(RIGHT[name])


def without_keeps(name):
    return read_program(re.sub(r" keep [^{]*", " ", RIGHT[name]))


def changed(name, old, new):
    text = RIGHT[name]
    assert text.count(old) >= 1, (name, old)
    return read_program(text.replace(old, new, 1))


def small_saying(source, names, clauses):
    terms = names + ("nil",)
    texts = []
    for _ in range(source.randint(1, clauses)):
        forms = [source.choice(("list(%s, %s)", "list(%s, nil)", "list(%s, nil)", "cell(%s, %s)", "%s = %s",
                                "%s != %s"))
                 for _ in range(source.randint(0, 2))]
        rows = [form % tuple(source.choice(terms) for _ in range(form.count("%s"))) for form in forms]
        texts.append(" * ".join(rows) or "empty")
    return read_saying(" | ".join(texts))


def small_program(source, with_open=False):
    """A program with one or two functions of few names, most of its terms not nil."""
    counts = [("f", source.randint(0, 2), source.randint(0, 1)), ("g", source.randint(0, 2), source.randint(0, 1))]
    counts = counts[:source.randint(1, 2)]
    return tuple(small_function(source, row, counts, with_open) for row in counts)


def small_function(source, row, callees, with_open):
    name, params, spares = row[0], ("p", "q")[:row[1]], ("s",)[:row[2]]
    wheres = ("a", "b")[:source.randint(0, 2)]
    body = SmallBody(source, params, spares, wheres, callees, with_open)
    head, foot = small_saying(source, params + spares, 1), small_saying(source, params + spares + ("result",), 2)
    return name, params, spares, wheres, head, foot, body.row(0, source.randint(0, 5))


class SmallBody:
    def __init__(self, source, params, spares, wheres, callees, with_open):
        self.source = source
        self.goals = wheres + ("result",)
        self.terms = params + self.goals
        self.spares = spares
        self.callees = callees
        self.with_open = with_open

    def term(self):
        return self.source.choice(self.terms * 3 + ("nil",))

    def row(self, deep, many):
        return tuple(self.statement(deep) for _ in range(many))

    def statement(self, deep):
        few = self.source.randint
        words = ["set", "get", "get", "put", "free", "new", "call"] + (["if", "while"] if deep < 2 else [])
        word, goal = self.source.choice(words), self.source.choice(self.goals)
        if word in ("set", "new", "get"):
            return word, goal, self.term()
        if word == "put":
            return word, self.term(), self.term()
        if word == "free":
            return word, self.term()
        if word == "call":
            callee, params, spares = self.source.choice(self.callees)
            spareargs = tuple(self.source.choice(self.terms + self.spares + ("nil",)) for _ in range(spares))
            return word, goal, callee, tuple(self.term() for _ in range(params)), spareargs
        test = self.source.choice([("any",), ("is", self.term(), self.term()), ("isnt", self.term(), "nil")])
        if word == "if":
            return word, test, self.row(deep + 1, few(0, 3)), self.row(deep + 1, few(0, 2))
        told = not self.with_open or few(0, 1)
        keep = small_saying(self.source, self.terms + self.spares, 2) if told else None
        return word, test, keep, self.row(deep + 1, few(0, 3))
