"""Courses: what is known of the let histories of a sender, and how they go on."""

from sharedboard.boardspaces import board_spaces
from sharedboard.journeys import Journeys
from sharedboard.least import least_runs
from sharedboard.leastdeeds import least_deeds, written_deed
from sharedboard.pairs import PairWays
from sharedboard.tables import run_spaces


class Course:
    """The least deeds and the board spaces of the classes, the shortest let histories, and the ways of pairs."""

    def __init__(self, book, sender):
        self._least = least_runs(book)
        self.sender = sender
        self.board_width = book.cells() + 1
        self.spaces = board_spaces(book, run_spaces(book, self._least))
        self.deeds = {cls: least_deeds(book, self._least, cls) for cls in list(self.spaces)}
        self.journeys = Journeys(book, sender, self._least)
        self.pair_ways = PairWays(book, sender, self.spaces)

    def written(self, deeds):
        """Return the list of the deeds that least deeds stand for."""
        return [written_deed(self._least, deed) for deed in deeds]
