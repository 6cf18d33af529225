"""Sayings for loops, found by cases."""

from heldapart.bounds import MAX_CLAUSES
from heldapart.cases import clause_cases, spots_of
from heldapart.checking import cuts
from heldapart.errors import TooMany, Unfit, Untold
from heldapart.programs import names_of, with_keeps
from heldapart.settling import leads_of, settled
from heldapart.stretches import Stretches, open_ways, start_cases

NEVER = ((("isnt", "nil", "nil"),), ())


def folded(names, case):
    """Return the case that is left when all nameless lots that can be taken out are."""
    lot = least_to_fold(case)
    while lot is not None:
        case = without_lot(case, lot)
        lot = least_to_fold(case)
    return case


def least_to_fold(case):
    """Return the least nameless lot that can be taken out, None if there is none."""
    lots, arrows = case
    leads = leads_of(arrows)
    for lot in range(1, len(lots)):
        if not lots[lot] and lot in leads:
            begins = [begin for begin, _, end in arrows if end == lot]
            if len(begins) == 1 and leads[lot][1] != begins[0]:
                return lot
    return None


def without_lot(case, lot):
    """Return case without this nameless lot: one long arrow takes the place of the two at it."""
    lots, arrows = case
    leads = {begin: (kind, end) for begin, kind, end in arrows if begin != lot and end != lot}
    begin = [begin for begin, _, end in arrows if end == lot][0]
    leads[begin] = ("long", leads_of(arrows)[lot][1])
    return settled(lots, leads)[0]


def clause_of(names, case):
    """Return the clause that tells the lots and arrows of case; raise Unfit if some lot has no name."""
    lots, arrows = case
    if () in lots[1:]:
        raise Unfit()
    firsts = ["nil"] + [lot[0] for lot in lots[1:]]
    looks = [("is", name, "nil") for name in lots[0]]
    looks = looks + [("is", lot[0], name) for lot in lots[1:] for name in lot[1:]]
    looks = looks + [("isnt", first, "nil") for first in firsts[1:]]
    for at, first in enumerate(firsts):
        if at > 0:
            looks = looks + [("isnt", first, other) for other in firsts[at + 1:]]
    words = {"short": "cell", "long": "list"}
    return tuple(looks), tuple([(words[kind], firsts[begin], firsts[end]) for begin, kind, end in arrows])


def found(program):
    """Return program with a keep for each while that has none."""
    searches = [Search(program, function) for function in program if open_ways(function)]
    for search in searches:
        search.go_on()
    for search in searches:
        search.look_for_untold()
    keeps = {search.function[0]: search.keeps() for search in searches}
    return tuple([with_keeps(function, keeps.get(function[0], {})) for function in program])


class Search:
    """The search for the keeps of a function's whiles that have none.

    lots has the clauses of each such while; untold has those to which a case comes of which no clause tells.
    """

    def __init__(self, program, function):
        self.function = function
        self.names = names_of(function)
        self.lots = {way: {} for way in open_ways(function)}
        self.untold = {}
        self.seen = {}
        self.stretches = {way: Stretches(program, function, way) for way in cuts(function)}
        for way in cuts(function):
            if way not in self.lots:
                self.begin(way, start_cases(function, way))

    def begin(self, way, cases):
        """Let stretches from this cut begin with these cases."""
        for case in cases:
            self.stretches[way].begin(case)

    def go_on(self):
        """Put what lacks into the lots, again and again, until nothing does."""
        todo = list(self.stretches)
        while todo:
            stretches = self.stretches[todo.pop()]
            stretches.go_on()
            for where, case in stretches.take_arrivals():
                if where in self.lots and (where, case) not in self.seen:
                    self.seen[(where, case)] = True
                    if self.put(where, folded(self.names, case)):
                        todo.append(where)

    def put(self, where, case):
        """Put the clause of a folded case into the lot of the while where; tell whether it is a new one."""
        lots, _ = case
        if () in lots[1:]:
            self.untold[where] = True
            return False
        clause, lot = clause_of(self.names, case), self.lots[where]
        if clause in lot:
            return False
        lot[clause] = True
        if len(lot) > MAX_CLAUSES:
            raise TooMany(MAX_CLAUSES)
        # The looks of the clause hold by these lots and no others.
        self.begin(where, clause_cases(clause, lots, spots_of(lots)))
        return True

    def look_for_untold(self):
        """Raise Untold with the least way of a while to which a case comes of which no clause tells."""
        for way in self.lots:
            if way in self.untold:
                raise Untold(self.function[0], way)

    def keeps(self):
        """Return a dict with the keep of each while that has none."""
        return {way: tuple(sorted(lot)) if lot else (NEVER,) for way, lot in self.lots.items()}
