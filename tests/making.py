"""Programs for tests: some by hand, others at random."""

EMPTY = (((), ()),)
NO_TUPLES = [
    None, True, False, 0, 1, -3, 10 ** 399, "", "x", "ab", "form", "empty", [], {}, [()], {"x": 0}, {0: ()}, {(): ()},
]


def function(name="f", params=("p",), spares=("s",), wheres=("w",), head=EMPTY, foot=EMPTY, body=()):
    return name, params, spares, wheres, head, foot, body


def nested(deep, statement, word="if"):
    """The statement standing in so many others."""
    for _ in range(deep):
        statement = (("if", ("any",), (), (statement,)) if word == "if" else
                     ("while", ("is", "p", "w"), None, (statement,)))
    return statement


def any_saying(names, source, clauses=2):
    """A saying over these names."""
    terms = names + ("nil",)
    rows = []
    for _ in range(source.randint(1, clauses)):
        looks = [(source.choice(("is", "isnt")), source.choice(terms), source.choice(terms))
                 for _ in range(source.randint(0, 2))]
        parts = [(source.choice(("cell", "list")), source.choice(terms), source.choice(terms))
                 for _ in range(source.randint(0, 2))]
        rows.append((tuple(looks), tuple(parts)))
    return tuple(rows)


def any_program(source, most=6):
    """A program at random: all kinds of statements, calls of all functions by one another."""
    counts = []
    for _ in range(source.randint(1, most)):
        params = source.randint(0, 2)
        counts.append((params, source.randint(0, 2), source.randint(0 if params else 1, 1 if params else 3)))
    names = source.sample(["f", "g", "h", "turn", "tip", "abcdefgh", "p", "keeps"], len(counts))
    callees = [(name, row[0], row[1]) for name, row in zip(names, counts)]
    return tuple(any_function(name, row, callees, source) for name, row in zip(names, counts))


def any_function(name, counts, callees, source):
    pool = source.sample(["p", "q", "r", "s", "t", "f", "newer", "cells", "zzzzzzzz", "isx"], sum(counts))
    params, spares = tuple(pool[:counts[0]]), tuple(pool[counts[0]:counts[0] + counts[1]])
    wheres = tuple(pool[counts[0] + counts[1]:])
    maker = Maker(params, spares, wheres, callees, source)
    body = maker.statements(0, source.randint(0, 6))
    foot = any_saying(params + spares + ("result",), source)
    return name, params, spares, wheres, any_saying(params + spares, source, 1), foot, body


class Maker:
    def __init__(self, params, spares, wheres, callees, source):
        self.goals = wheres + ("result",)
        self.terms = params + self.goals + ("nil",)
        self.spares = spares
        self.callees = callees
        self.source = source
        self.left = 40

    def term(self):
        return self.source.choice(self.terms)

    def test(self):
        if self.source.randint(0, 2) == 0:
            return ("any",)
        return self.source.choice(("is", "isnt")), self.term(), self.term()

    def statements(self, deep, many):
        rows = []
        for _ in range(many):
            if self.left:
                self.left -= 1
                rows.append(self.statement(deep))
        return tuple(rows)

    def statement(self, deep):
        words = ["set", "new", "get", "put", "free", "call"] + (["if", "while"] * 2 if deep < 4 else [])
        word = self.source.choice(words)
        goal = self.source.choice(self.goals)
        if word in ("set", "new", "get"):
            return word, goal, self.term()
        if word == "put":
            return word, self.term(), self.term()
        if word == "free":
            return word, self.term()
        few = self.source.randint
        if word == "if":
            return word, self.test(), self.statements(deep + 1, few(0, 3)), self.statements(deep + 1, few(0, 2))
        if word == "while":
            names = self.terms[:-1] + self.spares
            keep = None if few(0, 1) else any_saying(names, self.source)
            return word, self.test(), keep, self.statements(deep + 1, few(0, 3))
        callee, params, spares = self.source.choice(self.callees)
        args = tuple(self.term() for _ in range(params))
        return word, goal, callee, args, tuple(self.source.choice(self.terms + self.spares) for _ in range(spares))
