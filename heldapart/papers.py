"""Papers: ends of stretches by cases, traced back to a store, a heap and answers."""

from heldapart.calls import answers_of
from heldapart.cases import spots_of
from heldapart.settling import settled
from heldapart.steps import aheads, changes


def paper_of(name, stretches, end):
    """Return the paper of the function with this name by which a stretch comes to this end."""
    _, word, case = end
    origin = stretches.ends[end]
    picture = Picture(case)
    if word != "came":
        place, ahead, _ = origin
        if word == "lost":
            picture.back_over_lost(ahead, case, stretches, place)
        case, origin = ahead, stretches.came[place][ahead]
    while origin is not None:
        place, ahead, yes = origin
        if yes is not None:
            picture.answers.append(("any", yes))
        picture.back_over_row(ahead, case, stretches, place)
        case, origin = ahead, stretches.came[place][ahead]
    store, heap = picture.told(stretches.names, case)
    return name, stretches.way, store, heap, tuple(picture.answers[::-1])


class Picture:
    """A store and a heap of which a case tells, and the answers from there on to the end, the last one first.

    worths has the address of each lot; amids has for each long arrow the addresses of its cells behind the first.
    At the end each long arrow has two cells, as in laid_out: of a heap with fewer a saying might hold.
    """

    def __init__(self, case):
        lots, arrows = case
        self.given = len(lots) - 1
        self.worths = {lot: lot for lot in range(len(lots))}
        self.amids = {begin: [self.fresh()] for begin, kind, _ in arrows if kind == "long"}
        self.answers = []

    def fresh(self):
        """Return an address that was not given yet."""
        self.given += 1
        return self.given

    def fill(self, many):
        """Give an address to each of so many lots that has none."""
        for lot in range(many):
            if lot not in self.worths:
                self.worths[lot] = self.fresh()

    def told(self, names, case):
        """Return the store and the heap."""
        lots, arrows = case
        spots = spots_of(lots)
        return tuple([(name, self.worths[spots[name]]) for name in names]), self.cells_along(arrows, self.amids)

    def cells_along(self, arrows, amids):
        """Return the heap of the cells of these arrows."""
        cells = []
        for begin, _, end in arrows:
            row = [self.worths[begin]] + amids.get(begin, []) + [self.worths[end]]
            cells.extend(list(zip(row, row[1:])))
        return tuple(sorted(cells))

    def renumber(self, numbers):
        """Give the lots the numbers that they had."""
        self.worths = {numbers[lot]: value for lot, value in self.worths.items()}
        self.amids = {numbers[begin]: row for begin, row in self.amids.items()}

    def back_over_row(self, ahead, case, stretches, place):
        """Go back over the row at place: from case to the one ahead of it."""
        way, row = stretches.road.rows[place]
        if row[0] == "unless":
            return
        statement = stretches.road.statements[way]
        if row[0] == "call":
            self.back_over_call(ahead, case, stretches.functions[row[2]], statement)
        else:
            self.back_over_step(ahead, case, statement)

    def back_over_step(self, ahead, case, statement):
        """Go back over a set, new, get, put or free, which made case of ahead."""
        for opened_case, numbers in aheads(ahead, statement):
            for lots, leads, made in changes(opened_case, statement):
                behind = settled(lots, leads)
                if behind is not None and behind[0] == case:
                    self.renumber(behind[1])
                    self.tell_new(made, opened_case)
                    self.close(opened_case, numbers, ahead)
                    return

    def tell_new(self, made, opened_case):
        """Give lots that were left out addresses of their own, and tell the one that a new cell gets."""
        self.fill(len(opened_case[0]))
        if made is not None:
            self.fill(made + 1)
            self.answers.append(("new", self.worths[made]))

    def close(self, opened_case, numbers, ahead):
        """Go back from opened_case to ahead, of which a long arrow may have been opened."""
        self.worths = {lot: self.worths[lot] for lot in range(len(opened_case[0]))}
        self.renumber(numbers)
        new = len(ahead[0])
        for begin, kind, _ in ahead[1]:
            if kind == "long" and begin not in self.amids:
                self.amids[begin] = [self.worths[new]] + self.amids[new] if new in self.worths else []
        self.forget(new)

    def forget(self, lot):
        """Take a lot away that is none of the case."""
        self.worths.pop(lot, None)
        self.amids.pop(lot, None)

    def back_over_lost(self, ahead, case, stretches, place):
        """Go back over the row at place, by which a cell is lost, from case to the one that was opened."""
        way, row = stretches.road.rows[place]
        statement = stretches.road.statements[way]
        if row[0] == "call":
            self.lose_by_call(ahead, stretches.functions[row[2]], statement)
            return
        for opened_case, numbers in aheads(ahead, statement):
            for lots, leads, made in changes(opened_case, statement):
                if opened_case == case and settled(lots, leads) is None:
                    self.tell_new(made, opened_case)
                    self.close(opened_case, numbers, ahead)
                    return

    def back_over_call(self, ahead, case, function, statement):
        """Go back over a call of function, which made case of ahead."""
        for lots, leads, laid, goal in answers_of(ahead, function, statement):
            behind = settled(lots, leads)
            if behind is not None and behind[0] == case:
                self.renumber(behind[1])
                self.fill(len(lots))
                self.answers.append(("call", self.worths[goal], self.cells_along(laid, self.amids)))
                self.put_back(ahead, leads, [begin for begin, _, _ in laid])
                return

    def put_back(self, ahead, leads, laid_begins):
        """Take away what was laid anew, and put back what was used; a long arrow that was parted is one again."""
        own = len(ahead[0])
        rows = {begin: row for begin, row in self.amids.items() if begin not in laid_begins}
        longs = [begin for begin, kind, _ in ahead[1] if kind == "long"]
        # A long arrow that was used is one cell: of each such heap the head's clause holds.
        self.amids = {begin: rows.get(begin, []) for begin in longs}
        if own in rows:
            for begin in longs:
                if begin in rows and leads[begin] == ("long", own):
                    self.amids[begin] = rows[begin] + [self.worths[own]] + rows[own]
        self.forget(own)

    def lose_by_call(self, ahead, function, statement):
        """Tell an answer to the call by which a cell is lost.

        The first one is not amid a long arrow: where such an answer loses a cell one beside all cells does so, too,
        and is told ahead of it.
        """
        for lots, leads, laid, goal in answers_of(ahead, function, statement):
            if settled(lots, leads) is None:
                self.fill(len(lots))
                self.answers.append(("call", self.worths[goal], self.cells_along(laid, {})))
                self.forget(len(ahead[0]))
                return
