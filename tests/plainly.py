"""Stretches done by the plain words of J1 and J2, statement by statement and without cases; and drawn answers."""

from heldapart.cases import cases_of
from heldapart.stores import holds, part_of
from shapes import all_lots


def plainly_lost(store, cells):
    reached, todo = set(), [value for _, value in store]
    while todo:
        at = todo.pop()
        if at in cells and at not in reached:
            reached.add(at)
            todo.append(cells[at])
    return len(reached) < len(cells)


def names_told(function):
    return tuple(sorted(function[1] + function[2] + function[3] + ("result",)))


def whiles_of(function):
    """The ways of all whiles of function with their keeps, by going through its statements."""
    found = {}

    def look(statements, above):
        for place, statement in enumerate(statements):
            way = above + (place,)
            if statement[0] == "while":
                found[way] = statement[2]
                look(statement[3], way + (0,))
            if statement[0] == "if":
                look(statement[2], way + (0,))
                look(statement[3], way + (1,))

    look(function[6], ())
    return found


def begins_right(function, way, store, heap):
    """Whether a stretch begins so."""
    if tuple(name for name, _ in store) != names_told(function):
        return False
    if way == ():
        nils = function[3] + ("result",)
        return all(value == 0 for name, value in store if name in nils) and holds(function[4], store, heap)
    keep = whiles_of(function)[way]
    return keep is not None and holds(keep, store, heap)


class NoAnswer(Exception):
    """No right answer is there."""


class PlainStretch:
    """A stretch; answers are taken from ask, a function of what is asked and of this stretch."""

    def __init__(self, program, name, store, heap, ask):
        self.functions = {function[0]: function for function in program}
        self.function = self.functions[name]
        self.values = dict(store) | {"nil": 0}
        self.cells = dict(heap)
        self.ask = ask
        self.taken = []
        self.rows = [(store, heap)]

    def now(self):
        store = tuple((name, self.values[name]) for name in names_told(self.function))
        return store, tuple(sorted(self.cells.items()))

    def outcome(self, way):
        """The verdict and the where; (None, None) if there is no right answer."""
        try:
            if way == ():
                return self.come((), 0)
            return self.test(way, self.at(way))
        except NoAnswer:
            return None, None

    def row(self, above):
        """The statements in which one stands: those of the function, or of a side of an if or a while."""
        if above == ():
            return self.function[6]
        statement = self.at(above[:-1])
        return statement[2 + above[-1]] if statement[0] == "if" else statement[3]

    def at(self, way):
        return self.row(way[:-1])[way[-1]]

    def come(self, above, place):
        """Come to a place of the statements that stand there, perhaps behind the last one."""
        row = self.row(above)
        if place == len(row):
            if above == ():
                return self.end((), self.function[5])
            outer = self.at(above[:-1])
            if outer[0] == "while":
                return self.end(above[:-1], outer[2])
            return self.come(above[:-2], above[-2] + 1)
        way, statement = above + (place,), row[place]
        if statement[0] == "while":
            return self.end(way, statement[2])
        if statement[0] == "if":
            return self.test(way, statement)
        verdict = self.plain(statement)
        if verdict is not None:
            return verdict, way
        self.rows.append(self.now())
        if plainly_lost(self.now()[0], self.cells):
            return "lost", way
        return self.come(above, place + 1)

    def end(self, where, told):
        if told is None:
            return None, None
        return ("kept" if holds(told, *self.now()) else "unkept"), where

    def test(self, way, statement):
        test = statement[1]
        if test == ("any",):
            holding = self.answer("any")[1]
        else:
            holding = (self.values[test[1]] == self.values[test[2]]) == (test[0] == "is")
        if statement[0] == "if":
            return self.come(way + (0,) if holding else way + (1,), 0)
        return self.come(way + (0,), 0) if holding else self.come(way[:-1], way[-1] + 1)

    def answer(self, word, *more):
        answer = self.ask(self, word, *more)
        if answer is None:
            raise NoAnswer()
        self.taken.append(answer)
        return answer

    def plain(self, statement):
        word = statement[0]
        if word == "set":
            self.values[statement[1]] = self.values[statement[2]]
        elif word == "new":
            held = self.values[statement[2]]
            address = self.answer("new")[1]
            self.cells[address] = held
            self.values[statement[1]] = address
        elif word == "call":
            return self.call(statement)
        else:
            at = self.values[statement[2 if word == "get" else 1]]
            if at not in self.cells:
                return "fault"
            if word == "get":
                self.values[statement[1]] = self.cells[at]
            elif word == "put":
                self.cells[at] = self.values[statement[2]]
            else:
                del self.cells[at]
        return None

    def call(self, statement):
        _, goal, name, args, spareargs = statement
        callee = self.functions[name]
        own = {known: self.values[term] for known, term in zip(callee[1] + callee[2], args + spareargs)}
        part = part_of(callee[4][0], tuple(sorted(own.items())), tuple(sorted(self.cells.items())))
        if part is None:
            return "head"
        left = {at: value for at, value in self.cells.items() if (at, value) not in part}
        _, given, piece = self.answer("call", callee, own, left)
        self.cells = left | dict(piece)
        self.values[goal] = given
        return None


def asks_from(answers):
    """An ask that takes answers as they are told, and none that is not right."""
    todo = list(answers)

    def ask(stretch, word, *more):
        if not todo:
            return None
        answer = todo.pop(0)
        return answer if is_right(stretch, answer, word, *more) else None

    return ask, todo


def is_right(stretch, answer, word, *more):
    if type(answer) is not tuple or not answer or type(answer[0]) is not str or answer[0] != word:
        return False
    if word == "any":
        return len(answer) == 2 and type(answer[1]) is bool
    if word == "new":
        return len(answer) == 2 and type(answer[1]) is int and answer[1] > 0 and answer[1] not in stretch.cells
    callee, own, left = more
    if len(answer) != 3 or type(answer[1]) is not int or answer[1] < 0 or not is_plain_heap(answer[2]):
        return False
    store = tuple(sorted((own | {"result": answer[1]}).items()))
    return not any(at in left for at, _ in answer[2]) and holds(callee[5], store, answer[2])


def is_plain_heap(value):
    if type(value) is not tuple:
        return False
    for item in value:
        if type(item) is not tuple or len(item) != 2 or type(item[0]) is not int or type(item[1]) is not int:
            return False
        if item[0] < 1 or item[1] < 0:
            return False
    return all(one[0] < other[0] for one, other in zip(value, value[1:]))


def plain_verdict(program, paper):
    """What replay has to tell of a paper whose kinds of values are right, None if it is none."""
    name, way, store, heap, answers = paper
    functions = {function[0]: function for function in program}
    if name not in functions or way != () and way not in whiles_of(functions[name]):
        return None
    if not begins_right(functions[name], way, store, heap):
        return None
    ask, left = asks_from(answers)
    stretch = PlainStretch(program, name, store, heap, ask)
    verdict, where = stretch.outcome(way)
    if verdict in (None, "kept") or left:
        return None
    return verdict, where, tuple(stretch.rows)


def plain_paper(program, value):
    """What replay has to tell of any value, None if it is no paper."""
    if type(value) is not tuple or len(value) != 5:
        return None
    name, way, store, heap, answers = value
    if type(name) is not str or type(way) is not tuple or not all(type(item) is int for item in way):
        return None
    if type(store) is not tuple or not all(type(item) is tuple and len(item) == 2 for item in store):
        return None
    if not all(type(known) is str and type(held) is int and held >= 0 for known, held in store):
        return None
    if not is_plain_heap(heap) or type(answers) is not tuple:
        return None
    return plain_verdict(program, value)


def drawn(source, most=9):
    """An ask that draws right answers: addresses that names still have among them."""

    def address(stretch, held):
        pool = [at for at in range(1, most) if at not in held] or [max(held) + 1]
        named = [value for value in stretch.values.values() if value and value not in held]
        return source.choice(named) if named and source.randint(0, 1) else source.choice(pool)

    def ask(stretch, word, *more):
        if word == "any":
            return ("any", bool(source.randint(0, 1)))
        if word == "new":
            return ("new", address(stretch, stretch.cells))
        callee, own, left = more
        return drawn_answer(source, callee, own, left, stretch)

    return ask


def drawn_answer(source, callee, own, left, stretch):
    """A right answer to a call, at random; None if there is none."""
    names = tuple(sorted(own)) + ("result",)
    names = tuple(sorted(names))
    cases = list(cases_of(names, callee[5]))
    source.shuffle(cases)
    for case in cases:
        answer = answer_by(source, case, own, left, stretch)
        if answer is not None:
            return answer
    return None


def answer_by(source, case, own, left, stretch):
    lots, arrows = case
    values = {0: 0}
    for spot, lot in enumerate(lots):
        for name in lot:
            if name in own and values.setdefault(spot, own[name]) != own[name]:
                return None
    if len(set(values.values())) < len(values):
        return None
    begins = {begin for begin, _, _ in arrows}
    ends = {value for value in list(left.values()) + list(stretch.values.values()) if value}
    pool = [at for at in sorted(ends | set(left) | set(range(1, 12)))]
    source.shuffle(pool)
    used = set(values.values())
    for spot in range(1, len(lots)):
        if spot not in values:
            fits = [at for at in pool if at not in used and (spot not in begins or at not in left)]
            values[spot] = fits[0]
            used.add(fits[0])
    cells = {}
    for begin, kind, end in arrows:
        row = [values[begin]]
        for _ in range(source.randint(0, 2) if kind == "long" else 0):
            fits = [at for at in pool + list(range(20, 60)) if at not in used and at not in left]
            row.append(fits[0])
            used.add(fits[0])
        for at, value in zip(row, row[1:] + [values[end]]):
            if at in left or at == 0:
                return None
            cells[at] = value
    given = [values[spot] for spot, lot in enumerate(lots) if "result" in lot][0]
    return "call", given, tuple(sorted(cells.items()))
