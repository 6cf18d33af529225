"""Keeps found by the plain words of L4: lots grow from empty ones, and all stretches are gone through anew."""

from heldapart.cases import cases_of
from heldapart.checking import stretch_ends
from heldapart.errors import TooMany, Untold
from plainly import names_told, whiles_of
from shapes import case_fault

NEVER = (((("isnt", "nil", "nil"),), ()),)


def plainly_folded(case):
    """The case with nameless lots taken out, the least one first, and numbered by hand."""
    lots, arrows = case
    while True:
        for lot in range(1, len(lots)):
            into = [arrow for arrow in arrows if arrow[2] == lot]
            onward = [arrow for arrow in arrows if arrow[0] == lot]
            if lots[lot] == () and len(into) == 1 and onward and onward[0][2] != into[0][0]:
                rest = [arrow for arrow in arrows if arrow not in into + onward]
                rest.append((into[0][0], "long", onward[0][2]))
                lots = lots[:lot] + lots[lot + 1:]
                arrows = tuple(sorted((begin - (begin > lot), kind, end - (end > lot)) for begin, kind, end in rest))
                break
        else:
            return lots, arrows


def plain_clause(case):
    """The clause that tells a case without nameless lots."""
    lots, arrows = case
    firsts = ["nil"] + [lot[0] for lot in lots[1:]]
    looks = []
    for name in lots[0]:
        looks.append(("is", name, "nil"))
    for lot in lots[1:]:
        for name in lot[1:]:
            looks.append(("is", lot[0], name))
    for first in firsts[1:]:
        looks.append(("isnt", first, "nil"))
    for at in range(1, len(firsts)):
        for to in range(at + 1, len(firsts)):
            looks.append(("isnt", firsts[at], firsts[to]))
    words = {"short": "cell", "long": "list"}
    return tuple(looks), tuple((words[kind], firsts[begin], firsts[end]) for begin, kind, end in arrows)


def rekept(function, keeps):
    """The function with these keeps, told by ways."""
    def told(statements, above):
        rows = []
        for place, statement in enumerate(statements):
            way = above + (place,)
            if statement[0] == "if":
                statement = statement[:2] + (told(statement[2], way + (0,)), told(statement[3], way + (1,)))
            if statement[0] == "while":
                keep = keeps.get(way, statement[2])
                statement = ("while", statement[1], keep, told(statement[3], way + (0,)))
            rows.append(statement)
        return tuple(rows)

    return function[:6] + (told(function[6], ()),)


def naive_found(program):
    """What found has to tell, or the error that it has to raise, of a program with few cases."""
    done, over, untold = [], False, None
    for function in program:
        names, ways = names_told(function), [way for way, keep in whiles_of(function).items() if keep is None]
        if not ways:
            done.append(function)
            continue
        cases_of(tuple(sorted(function[1] + function[2])), function[4])
        for keep in whiles_of(function).values():
            if keep is not None:
                cases_of(names, keep)
        lots, nameless = {way: set() for way in ways}, set()
        while max(len(lot) for lot in lots.values()) <= 64:
            tried = rekept(function, {way: tuple(sorted(lot)) or NEVER for way, lot in lots.items()})
            come = arrivals(program, tried)
            fresh = {way: set(lot) for way, lot in lots.items()}
            for where, case in come:
                if where in fresh:
                    row = plainly_folded(case)
                    assert case_fault(names, row) is None
                    if () in row[0][1:]:
                        nameless.add(where)
                    else:
                        fresh[where].add(plain_clause(row))
            if fresh == lots:
                break
            lots = fresh
        else:
            over = True
            continue
        if nameless and untold is None:
            untold = function[0], min(nameless)
        done.append(tried)
    if over:
        return TooMany, (64,)
    return (Untold, untold) if untold else (None, tuple(done))


def arrivals(program, function):
    """All wheres and cases with which stretches of a function come to its whiles."""
    others = tuple(rekept(other, {way: NEVER for way in whiles_of(other)}) for other in program)
    whole = tuple(function if other[0] == function[0] else other for other in others)
    found = set()
    for way in [()] + list(whiles_of(function)):
        for where, verdict, case in stretch_ends(whole, function[0], way):
            if verdict in ("kept", "unkept"):
                found.add((where, case))
    return found
