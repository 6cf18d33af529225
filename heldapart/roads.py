"""The rows of a function as stretches go along them."""

from heldapart.code import coded
from heldapart.programs import walked


class Road:
    """The rows of a function, its statements by their ways, and where stretches begin and end."""

    def __init__(self, function):
        self.rows = coded(function)
        self.statements = dict(walked(function[6], ()))

    def begin_of(self, way):
        """Return the place at which stretches from this cut begin."""
        if way == ():
            return 0
        return [known for known, _ in self.rows].index(way)

    def behind_jumps(self, place):
        """Return the place of the row to which the jumps from place on lead."""
        while self.rows[place][1][0] == "jump":
            place = self.rows[place][1][1]
        return place

    def is_end(self, place):
        """Tell whether a stretch that comes to this place ends there: at a while, or at the function's end."""
        way, row = self.rows[place]
        return row[0] == "back" or self.statements[way][0] == "while"
