"""Clauses, cases and small heaps for tests, made by the plain words of the document."""

import copy
import itertools


def same_twice(test, function, named):
    """Call function by place and by name, several times: equal answers, and nothing is changed."""
    before, told = repr(named), function(*named.values())
    for _ in (0, 1):
        test.assertEqual(repr(function(**named)), repr(told))
        test.assertEqual(repr(function(**dict(reversed(named.items())))), repr(told))
        test.assertEqual(repr(function(*copy.deepcopy(list(named.values())))), repr(told))
    test.assertEqual(repr(named), before)
    return told


def clauses(terms, most):
    """All clauses with at most so many looks and parts together, in one order each."""
    looks = [(word, a, b) for word in ("is", "isnt") for a, b in itertools.product(terms, repeat=2)]
    parts = [(word, a, b) for word in ("cell", "list") for a, b in itertools.product(terms, repeat=2)]
    for many in range(most + 1):
        for row in itertools.combinations_with_replacement(looks + parts, many):
            yield tuple(t for t in row if t in looks), tuple(t for t in row if t in parts)


def heaps(addresses, values):
    """All heaps with cells at some of addresses that hold some of values."""
    for row in itertools.product((None,) + tuple(values), repeat=len(addresses)):
        yield tuple((address, value) for address, value in zip(addresses, row) if value is not None)


def all_lots(names):
    """All partings of names and nil into lots, as C1 orders them."""
    if not names:
        return [((),)]
    found = []
    for lots in all_lots(names[:-1]):
        for at in range(len(lots)):
            found.append(lots[:at] + (lots[at] + names[-1:],) + lots[at + 1:])
        found.append(lots + (names[-1:],))
    return [(lots[0],) + tuple(sorted(lots[1:])) for lots in found]


def all_cases(names):
    """All cases over names that have no nameless lots."""
    for lots in all_lots(names):
        ways = []
        for begin in range(1, len(lots)):
            arrows = [(begin, "short", end) for end in range(len(lots))]
            arrows += [(begin, "long", end) for end in range(len(lots)) if end != begin]
            ways.append([()] + [(arrow,) for arrow in arrows])
        for row in itertools.product(*ways):
            yield lots, tuple(sorted(sum(row, ())))


def random_case(names, source, most):
    """A case over names with at most so many nameless lots."""
    lots = source.choice(all_lots(names))
    named, many = len(lots), len(lots) + source.randint(0, most)
    leads = {}
    for begin in range(1, many):
        if source.randint(0, 4):
            end = source.randrange(many)
            leads[begin] = (source.choice(("short", "long")) if end != begin else "short", end)
    numbers = {spot: spot for spot in range(named)}
    for spot in range(1, named):
        at = spot
        gone = set()
        while at in leads and at not in gone:
            gone.add(at)
            at = leads[at][1]
            numbers.setdefault(at, len(numbers))
    arrows = [(numbers[at], kind, numbers[end]) for at, (kind, end) in leads.items() if at in numbers]
    return lots + ((),) * (len(numbers) - named), tuple(sorted(arrows))


def stretched(case, names, source):
    """A store and a heap of which case tells, with long arrows of any length and any addresses."""
    lots, arrows = case
    addresses = iter(source.sample(range(1, 400), 300))
    values = [0] + [next(addresses) for _ in lots[1:]]
    cells = {}
    for begin, kind, end in arrows:
        row = [values[begin]] + [next(addresses) for _ in range(source.randint(0, 3) if kind == "long" else 0)]
        cells.update(zip(row, row[1:] + [values[end]]))
    store = tuple((name, value) for name in names for lot, value in zip(lots, values) if name in lot)
    return store, tuple(sorted(cells.items()))


def plain_tells(case, store, heap):
    """Whether case tells of store and heap, by trying all values of the nameless lots."""
    lots, arrows = case
    values = []
    for spot, lot in enumerate(lots):
        met = {value for name, value in store if name in lot} | ({0} if spot == 0 else set())
        if len(met) > 1:
            return False
        if met:
            values.extend(met)
    may = sorted({value for _, value in heap} - {0})
    return any(plainly_fits(arrows, tuple(values) + more, dict(heap))
               for more in itertools.permutations(may, len(lots) - len(values)))


def plainly_fits(arrows, values, cells):
    if len(set(values)) < len(values):
        return False
    used = []
    for begin, kind, end in arrows:
        at = values[begin]
        while True:
            if at not in cells or at in used:
                return False
            used.append(at)
            at = cells[at]
            if kind == "short" or at in values:
                break
        if at != values[end]:
            return False
    return sorted(used) == sorted(cells)


def case_fault(names, case):
    """What is not as C1 tells it of a case over names, None if all is."""
    lots, arrows = case
    if sorted(name for lot in lots for name in lot) != list(names) or type(lots) is not tuple:
        return "names"
    if any(list(lot) != sorted(set(lot)) or type(lot) is not tuple for lot in lots):
        return "lot"
    named = [lot for lot in lots[1:] if lot]
    if named != sorted(named) or list(lots[1:1 + len(named)]) != named:
        return "order of lots"
    if list(arrows) != sorted(set(arrows)) or len({begin for begin, _, _ in arrows}) < len(arrows):
        return "arrows"
    for begin, kind, end in arrows:
        if not 0 < begin < len(lots) or not 0 <= end < len(lots) or kind not in ("short", "long"):
            return "arrow"
        if kind == "long" and begin == end:
            return "long arrow to itself"
    leads = {begin: end for begin, _, end in arrows}
    met = []
    for at in range(1, len(named) + 1):
        gone = set()
        while at in leads and at not in gone:
            gone.add(at)
            at = leads[at]
            if at > len(named) and at not in met:
                met.append(at)
    return None if met == list(range(len(named) + 1, len(lots))) else "numbers"
