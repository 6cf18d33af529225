"""Stretches of a function by cases: from a cut, as far as the next whiles or the end."""

from heldapart.bounds import MAX_CASES
from heldapart.calls import called
from heldapart.cases import cases_of
from heldapart.errors import TooMany
from heldapart.programs import names_of, statement_at, walked
from heldapart.roads import Road
from heldapart.steps import looked, step


def start_cases(function, way):
    """Return the cases with which stretches from this cut begin; at a while its keep has to be told."""
    if way != ():
        return cases_of(names_of(function), statement_at(function, way)[2])
    nils = function[3] + ("result",)
    heads = cases_of(tuple(sorted(function[1] + function[2])), function[4])
    return tuple([((tuple(sorted(lots[0] + nils)),) + lots[1:], arrows) for lots, arrows in heads])


def open_ways(function):
    """Return the ways of all whiles of function without a keep, ascending."""
    return [way for way, statement in walked(function[6], ()) if statement[0] == "while" and statement[2] is None]


class Stretches:
    """All cases that come to the places of a function by stretches from one cut.

    came tells for each place and each case ahead of it where this comes from: from which place and case, and
    how an any test fell on the way. ends tells likewise of each where, word and case of an end; the word "came"
    is that of an end at a while or at the function's end, be it kept or not.
    """

    def __init__(self, program, function, way):
        self.functions = {callee[0]: callee for callee in program}
        self.names = names_of(function)
        self.road = Road(function)
        self.way = way
        self.came = {}
        self.ends = {}
        self.arrivals = []
        self.counts = {}
        self.todo = []

    def begin(self, case):
        """Let stretches begin with case; at the begin of a function it may come to an end at once."""
        place = self.road.begin_of(self.way)
        if self.way == ():
            self.come(place, case, None)
        else:
            self.go(place, case, None)

    def come(self, place, case, origin):
        """Come to a place with case: end there, or go on."""
        place = self.road.behind_jumps(place)
        if self.road.is_end(place):
            self.end(self.road.rows[place][0], "came", case, origin)
        else:
            self.go(place, case, origin)

    def go(self, place, case, origin):
        """Keep case for this place, if it is a new one there."""
        cases = self.came.setdefault(place, {})
        if case not in cases:
            cases[case] = origin
            self.todo.append((place, case))
            if len(cases) > MAX_CASES:
                raise TooMany(MAX_CASES)

    def end(self, where, word, case, origin):
        """Keep an end, if it is a new one."""
        if (where, word, case) not in self.ends:
            self.ends[(where, word, case)] = origin
            if word == "came":
                self.arrivals.append((where, case))
                self.counts[where] = self.counts.get(where, 0) + 1
                if self.counts[where] > MAX_CASES:
                    raise TooMany(MAX_CASES)

    def take_arrivals(self):
        """Return where and with which case stretches came to a while or the end since this was asked last."""
        arrivals = self.arrivals
        self.arrivals = []
        return arrivals

    def go_on(self):
        """Go on with all cases that are left to be done."""
        while self.todo:
            place, case = self.todo.pop()
            way, row = self.road.rows[place]
            if row[0] == "unless":
                self.fork(place, case, row)
                continue
            statement = self.road.statements[way]
            for word, behind in self.outcomes(case, statement):
                if word == "case":
                    self.come(place + 1, behind, (place, case, None))
                else:
                    self.end(way, word, behind, (place, case, None))

    def fork(self, place, case, row):
        """Come to where the test of row leads: any test may fall either way."""
        _, test, to = row
        if test == ("any",):
            self.come(place + 1, case, (place, case, True))
            self.come(to, case, (place, case, False))
        else:
            self.come(place + 1 if looked(case, test) else to, case, (place, case, None))

    def outcomes(self, case, statement):
        """Return the outcomes of a statement that is no if and no while."""
        if statement[0] == "call":
            return called(self.names, case, self.functions[statement[2]], statement)
        return step(self.names, case, statement)
