"""Cases: all shapes of heaps that a saying lets, and of what they tell."""

from heldapart.bounds import MAX_CASES
from heldapart.errors import TooMany
from heldapart.stores import looks_hold


def cases_of(names, saying):
    """Return the ascending tuple of all cases over names that come from a clause of saying."""
    partings = [(lots, spots_of(lots)) for lots in lots_over(names)]
    found = set()
    # A clause that stands twice makes nothing new.
    unlike = {clause: True for clause in saying}
    for clause in unlike:
        for lots, spots in partings:
            for case in clause_cases(clause, lots, spots):
                found.add(case)
            if len(found) > MAX_CASES:
                raise TooMany(MAX_CASES)
    return tuple(sorted(found))


def lots_over(names):
    """Return all ways to part names and nil into lots; the names ascend, so the lots do, too."""
    ways = [((),)]
    for name in names:
        ways = [grown for lots in ways for grown in lots_with(lots, name)]
    return ways


def lots_with(lots, name):
    """Return all ways to put name into one of lots, or behind them into one of its own."""
    joined = [lots[:at] + (lot + (name,),) + lots[at + 1:] for at, lot in enumerate(lots)]
    return joined + [lots + ((name,),)]


def spots_of(lots):
    """Return a dict with the place of the lot in which each term stands."""
    spots = {"nil": 0}
    for spot, lot in enumerate(lots):
        for name in lot:
            spots[name] = spot
    return spots


def clause_cases(clause, lots, spots):
    """Return all cases with these lots that come from clause."""
    ways = layings(clause, spots, list(range(1, len(lots))))
    return [(lots, tuple(sorted(arrows))) for arrows in ways]


def layings(clause, spots, free):
    """Return all lists of arrows by which clause is laid anew, no two from one lot, all from free ones."""
    looks, parts = clause
    if not looks_hold(looks, spots):
        return []
    cells = [(spots[left], spots[right]) for word, left, right in parts if word == "cell"]
    rows = [(spots[left], spots[right]) for word, left, right in parts if word == "list"]
    rows = [(begin, end) for begin, end in rows if begin != end]
    begins = [begin for begin, _ in cells + rows]
    if len(set(begins)) < len(begins) or not all([begin in free for begin in begins]):
        return []
    shorts = [(begin, "short", end) for begin, end in cells]
    return [shorts + longs for longs in routes(rows, [lot for lot in free if lot not in begins])]


def routes(rows, free):
    """Return all lists of long arrows along rows that pass free lots alone, each of them once."""
    if not rows:
        return [[]]
    begin, end = rows[0]
    found = []
    for passed in orders([lot for lot in free if lot != end]):
        longs = arrows_along((begin,) + passed + (end,))
        others = routes(rows[1:], [lot for lot in free if lot not in passed])
        found.extend([longs + more for more in others])
    return found


def orders(lots):
    """Return all tuples of some of lots, each at most once, in any order."""
    longest = [()]
    found = [()]
    for _ in lots:
        longest = [order + (lot,) for order in longest for lot in lots if lot not in order]
        found = found + longest
    return found


def arrows_along(lots):
    """Return the long arrows that lead from each of lots to the next one."""
    return [(begin, "long", end) for begin, end in zip(lots, lots[1:])]


def case_tells(names, case, store, heap):
    """Return whether case tells of store and heap."""
    lots, arrows = case
    values = named_values(lots, store)
    return values is not None and all_cells_fit(arrows, values, dict(heap))


def all_cells_fit(arrows, values, cells):
    """Tell whether cells are just those of arrows, lots with names having these values.

    Lots and addresses are alike where they are tied: where they have names, nothing leads on, or
    several lead to them. Between two ties there is one way only in both, so both are gone at once.
    """
    leads = {begin: end for begin, _, end in arrows}
    longs = {begin: True for begin, kind, _ in arrows if kind == "long"}
    lot_ties, cell_ties = ties(leads, list(values)), ties(cells, list(values.values()))
    given = dict(values)
    lots = list(values)
    many = 0
    while lots:
        lot = lots.pop()
        if lot not in leads:
            continue
        if given[lot] not in cells:
            return False
        way, end = way_to_tie(lot, leads, lot_ties)
        gone, value = way_to_tie(given[lot], cells, cell_ties)
        if end not in given:
            lots.append(end)
        if given.setdefault(end, value) != value or not is_as_long(way, longs, len(gone)):
            return False
        many += len(gone)
    return many == len(cells) and len(set(list(given.values()))) == len(given)


def named_values(lots, store):
    """Return the values of lot 0 and of all lots with names, None if store gives one lot two values."""
    spots, values = spots_of(lots), {0: 0}
    for name, value in store:
        if values.setdefault(spots[name], value) != value:
            return None
    return values


def ties(leads, named):
    """Return a dict of what is named, of what several lead to, and of what nothing leads on from."""
    found = {key: True for key in named}
    met = {}
    for end in leads.values():
        if end in met or end not in leads:
            found[end] = True
        met[end] = True
    return found


def way_to_tie(begin, leads, tied):
    """Return all that is gone from begin on until a tie is met, and that tie."""
    way = [begin]
    at = leads[begin]
    while at not in tied:
        way.append(at)
        at = leads[at]
    return way, at


def is_as_long(way, longs, many):
    """Tell whether the arrows from the lots of way can be so many cells."""
    if any([lot in longs for lot in way]):
        return many >= len(way)
    return many == len(way)


def laid_out(names, case):
    """Return a store and a heap of which case tells: short arrows are one cell there, long ones two."""
    lots, arrows = case
    spots = spots_of(lots)
    cells = []
    fresh = len(lots)
    for begin, kind, end in arrows:
        if kind == "short":
            cells.append((begin, end))
        else:
            cells.append((begin, fresh))
            cells.append((fresh, end))
            fresh += 1
    return tuple([(name, spots[name]) for name in names]), tuple(sorted(cells))
