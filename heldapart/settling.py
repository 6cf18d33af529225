"""Lots and arrows that changed, put in order as cases."""


def leads_of(arrows):
    """Return a dict with the kind and the end of the arrow that begins at each lot."""
    return {begin: (kind, end) for begin, kind, end in arrows}


def settled(lots, leads):
    """Return the case of lots and arrows, and for each of its lots the number it had, None if cells are lost.

    Nameless lots that no name leads to are left out; if an arrow begins at one its cells are lost.
    """
    rows = sorted([(lot, spot) for spot, lot in enumerate(lots) if lot and spot])
    named = [spot for _, spot in rows]
    order = [0] + named
    numbers = {spot: number for number, spot in enumerate(order)}
    gone = {}
    for begin in named:
        at = begin
        while at in leads and at not in gone:
            gone[at] = True
            at = leads[at][1]
            if at not in numbers:
                numbers[at] = len(order)
                order.append(at)
    if len(gone) < len(leads):
        return None
    arrows = [(numbers[spot], kind, numbers[end]) for spot, (kind, end) in leads.items()]
    return (tuple([lots[spot] for spot in order]), tuple(sorted(arrows))), order


def moved(lots, name, goal):
    """Return the list of lots when name has left its lot and come to the one with the number goal."""
    rows = [tuple([other for other in lot if other != name]) if name in lot else lot for lot in lots]
    rows[goal] = tuple(sorted(rows[goal] + (name,)))
    return rows
