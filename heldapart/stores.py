"""Stores and heaps, and what holds of them."""

from heldapart.sayings import is_term


def store_error(value):
    """Return None if value is a store, otherwise what is wrong with it."""
    if not isinstance(value, tuple):
        return "form"
    return row_error(value, [is_pair(item) and is_named(item[0]) and is_value(item[1]) for item in value])


def heap_error(value):
    """Return None if value is a heap, otherwise what is wrong with it."""
    if not isinstance(value, tuple):
        return "form"
    return row_error(value, [is_pair(item) and is_address(item[0]) and is_value(item[1]) for item in value])


def row_error(items, fits):
    """Return which item does not fit, or does not ascend, None if there is none such."""
    for spot, fit in enumerate(fits):
        if not fit:
            return ("item", spot)
    for spot in range(1, len(items)):
        if items[spot][0] <= items[spot - 1][0]:
            return ("order", spot)
    return None


def is_pair(value):
    """Tell whether value is a tuple of two items."""
    return isinstance(value, tuple) and len(value) == 2


def is_named(value):
    """Tell whether value may have a value in a store."""
    return is_term(value) and value != "nil"


def is_value(value):
    """Tell whether value is an integer from 0 on; True and False are none."""
    return isinstance(value, int) and not isinstance(value, bool) and value >= 0


def is_address(value):
    """Tell whether there may be a cell at value."""
    return is_value(value) and value != 0


def holds(saying, store, heap):
    """Return whether some clause of saying holds of store and all of heap."""
    cells = dict(heap)
    return takes_all(saying, values_of(store), cells, cells)


def part_of(clause, store, heap):
    """Return the heap of just those cells of heap of which clause holds, None if there are none such."""
    cells = dict(heap)
    took = taken(clause, values_of(store), cells, cells)
    if took is None:
        return None
    return tuple([cell for cell in heap if cell[0] in took])


def values_of(store):
    """Return a dict with the value of each term that has one by store."""
    values = dict(store)
    values["nil"] = 0
    return values


def looks_hold(looks, values):
    """Tell whether all looks hold where terms have these values."""
    for word, left, right in looks:
        if (values[left] == values[right]) != (word == "is"):
            return False
    return True


def takes_all(saying, values, leads, singles):
    """Tell whether some clause of saying takes all that leads on."""
    for clause in saying:
        took = taken(clause, values, leads, singles)
        if took is not None and len(took) == len(leads):
            return True
    return False


def taken(clause, values, leads, singles):
    """Return a dict of all from which the parts of clause lead on, None if the clause fails.

    leads tells what each cell, or lot of a case, leads to; singles has those that a cell part may take.
    """
    looks, parts = clause
    if not looks_hold(looks, values):
        return None
    took = {}
    for word, left, right in parts:
        at, end = values[left], values[right]
        if word == "cell":
            if at not in singles or at in took or leads[at] != end:
                return None
            took[at] = True
        elif not takes_list(at, end, leads, took):
            return None
    return took


def takes_list(at, end, leads, took):
    """Take all on the way until end is met first; tell whether it is met, none being taken twice."""
    while at != end:
        if at not in leads or at in took:
            return False
        took[at] = True
        at = leads[at]
    return True


def lost(store, heap):
    """Return the ascending tuple of the addresses of all cells that no name of store leads to."""
    cells = dict(heap)
    reached = {}
    for _, value in store:
        at = value
        while at in cells and at not in reached:
            reached[at] = True
            at = cells[at]
    return tuple([address for address, _ in heap if address not in reached])
