"""Steps on cases: what a statement does with all heaps of a case."""

from heldapart.cases import spots_of
from heldapart.errors import Unfit
from heldapart.settling import leads_of, moved, settled
from heldapart.stores import looks_hold


def opened(names, case, begin):
    """Return both cases that opening the long arrow from the lot begin makes; raise Unfit if there is none."""
    return tuple(sorted([ahead for ahead, _ in opened_ways(case, begin)]))


def opened_ways(case, begin):
    """Return both cases that opening makes, each with the numbers that its lots had.

    The number of a new lot is that of how many lots there were.
    """
    lots, arrows = case
    leads = leads_of(arrows)
    if begin not in leads or leads[begin][0] != "long":
        raise Unfit()
    end, new = leads[begin][1], len(lots)
    one = settled(lots, {**leads, begin: ("short", end)})
    more = settled(lots + ((),), {**leads, begin: ("short", new), new: ("long", end)})
    return [one, more]


def looked(case, look):
    """Return whether look holds of case."""
    return looks_hold((look,), spots_of(case[0]))


def step(names, case, statement):
    """Return the ascending tuple of the outcomes of a set, new, get, put or free."""
    if faults(case, statement):
        return (("fault", case),)
    outcomes = {}
    for ahead, _ in aheads(case, statement):
        for lots, leads, _ in changes(ahead, statement):
            behind = settled(lots, leads)
            outcomes[("lost", ahead) if behind is None else ("case", behind[0])] = True
    return tuple(sorted(outcomes))


def asked(case, statement):
    """Return the lot at which statement asks for a cell, None if it asks for none."""
    if statement[0] in ("set", "new"):
        return None
    return spots_of(case[0])[statement[2 if statement[0] == "get" else 1]]


def faults(case, statement):
    """Tell whether statement asks for a cell where there is none."""
    lot = asked(case, statement)
    return lot is not None and not any([begin == lot for begin, _, _ in case[1]])


def aheads(case, statement):
    """Return the cases, opened as far as statement opens case, each with the numbers that its lots had."""
    lot = asked(case, statement)
    if lot is not None and any([begin == lot and kind == "long" for begin, kind, _ in case[1]]):
        return opened_ways(case, lot)
    return [(case, list(range(len(case[0]))))]


def changes(case, statement):
    """Return the lots and arrows that statement leaves, and the lot of the new cell, None if it makes none.

    There is an item for each address that a new cell may get, as far as cases tell them apart.
    """
    lots, arrows = case
    spots, leads = spots_of(lots), leads_of(arrows)
    word = statement[0]
    if word == "set":
        return [(moved(lots, statement[1], spots[statement[2]]), leads, None)]
    if word == "get":
        return [(moved(lots, statement[1], leads[spots[statement[2]]][1]), leads, None)]
    if word == "put":
        return [(lots, {**leads, spots[statement[1]]: ("short", spots[statement[2]])}, None)]
    if word == "free":
        at = spots[statement[1]]
        return [(lots, {begin: lead for begin, lead in leads.items() if begin != at}, None)]
    end, many = spots[statement[2]], len(lots)
    free = [lot for lot in range(1, many + 1) if lot not in leads]
    return [(moved(lots + ((),), statement[1], lot), {**leads, lot: ("short", end)}, lot) for lot in free]
