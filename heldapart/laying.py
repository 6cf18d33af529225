"""What follows from a saying: clauses that are laid along the arrows of cases."""

from heldapart.cases import cases_of, laid_out, spots_of
from heldapart.stores import takes_all


def is_laid(case, clause):
    """Return whether clause can be laid along case."""
    return can_lay(case, (clause,))


def can_lay(case, saying):
    """Tell whether some clause of saying can be laid along case."""
    lots, arrows = case
    leads = {begin: end for begin, _, end in arrows}
    shorts = {begin: True for begin, kind, _ in arrows if kind == "short"}
    return takes_all(saying, spots_of(lots), leads, shorts)


def follows(names, left, right):
    """Return whether right holds of all stores of just names and all heaps of which left holds."""
    return parting(names, left, right) is None


def parting(names, left, right):
    """Return a store and a heap of which left holds and right does not, None if there are none."""
    for case in cases_of(names, left):
        if not can_lay(case, right):
            return laid_out(names, case)
    return None
