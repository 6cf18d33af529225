"""Calls on cases: what a function with a head and a foot may do, and what lies beside."""

from heldapart.cases import layings, spots_of
from heldapart.settling import leads_of, moved, settled
from heldapart.stores import taken


def rest_of(case, clause):
    """Return the arrows that the parts of clause take out of case, and all others, None if they cannot."""
    lots, arrows = case
    took = taken_out(arrows, clause, spots_of(lots))
    if took is None:
        return None
    used = tuple([arrow for arrow in arrows if arrow[0] in took])
    return used, tuple([arrow for arrow in arrows if arrow[0] not in took])


def taken_out(arrows, clause, spots):
    """Return a dict of the lots whose arrows clause takes, terms standing at spots; None if it cannot."""
    leads = {begin: end for begin, _, end in arrows}
    shorts = {begin: True for begin, kind, _ in arrows if kind == "short"}
    return taken(clause, spots, leads, shorts)


def called(names, case, function, statement):
    """Return the ascending tuple of the outcomes of a call of any function with this head and foot."""
    answers = answers_of(case, function, statement)
    if answers is None:
        return (("head", case),)
    outcomes = {}
    for lots, leads, _, _ in answers:
        behind = settled(lots, leads)
        outcomes[("lost", case) if behind is None else ("case", behind[0])] = True
    return tuple(sorted(outcomes))


def answers_of(case, function, statement):
    """Return a list of all answers to a call, None if the head cannot be taken out of case.

    For each answer: the lots and arrows that it leaves, the arrows of them that are laid anew, and the
    answer's lot. The number of one of its own is that of how many lots there were.
    """
    lots, arrows = case
    spots = spots_of(lots)
    handed = own_spots(function, statement, spots)
    took = taken_out(arrows, function[4][0], handed)
    if took is None:
        return None
    left = {begin: lead for begin, lead in leads_of(arrows).items() if begin not in took}
    _, there = settled(lots, left)
    answers = []
    for goal, leads in goals_of(there, len(lots), left):
        known = there if goal in there else there + [goal]
        free = [lot for lot in known if lot != 0 and lot not in leads]
        handed["result"] = goal
        after = moved(lots + ((),), statement[1], goal)
        for clause in function[5]:
            for laid in layings(clause, handed, free):
                anew = leads_of(laid)
                answers.append((after, {**leads, **anew}, laid, goal))
    return answers


def own_spots(function, statement, spots):
    """Return the lots for which function's params and spares, and nil, stand in a call."""
    handed = {"nil": 0}
    for name, term in zip(function[1] + function[2], statement[3] + statement[4]):
        handed[name] = spots[term]
    return handed


def goals_of(there, own, left):
    """Return pairs of the answer's lot, in each way, and the arrows left: it may part a long one."""
    goals = [(lot, left) for lot in there + [own]]
    for begin, (kind, end) in left.items():
        if kind == "long":
            goals.append((own, {**left, begin: ("long", own), own: ("long", end)}))
    return goals
