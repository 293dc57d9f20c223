"""Whether papers on flat lots and thin lots are right: right ones, bent ones, refusals."""

import itertools
from unittest.mock import ANY

from spanalike.check_flats import shows_flat, shows_most_thin, shows_no_flat
from spanalike.errors import BadNumber, BadRow, TooMany
from spanalike.flat_lots import NoFlat, no_flat
from spanalike.flats import Bent, Flat, flat_word
from spanalike.papers import Denial, Paper
from spanalike.rows import Row
from spanalike.thin import MostThin, most_thin
from tests.tools import LONG, NO_INTEGERS, NO_LOTS, Case, all_lots, counts_of, cross

FLAT = Row.of(7, [0, 1, 3])
BENT = Row.of(8, [0, 1, 2])
NO_PAPERS = (None, True, False, 1, "flat", (1, 2), [1], {}, object(), ANY, Paper("flat", 1), Denial("bent", 1, 4))


def is_thin(lot):
    return max(counts_of(lot.many, lot.marks)) <= 1


class TestShowsFlat(Case):
    def test_all_values(self):
        for many in range(2, 9):
            for lot in all_lots(many):
                told = cross(lot.numbers, lot.numbers)
                is_flat = len(set(told[1:])) == 1
                for number in range(-1, many + 1):
                    self.assertIs(shows_flat(lot, Flat(number)), is_flat and number == told[1])
                for one, other in itertools.product(range(-1, many + 1), repeat=2):
                    right = 1 <= one < other <= many // 2 and told[one] != told[other]
                    self.assertIs(shows_flat(lot, Bent(one, other)), right)
                self.assertIs(shows_flat(lot=lot, value=flat_word(lot)), True)

    def test_bent(self):
        for value in NO_PAPERS + (Bent, Flat, Flat(True), Flat(1.0), Flat("1"), Flat(None), Flat(ANY), Flat([1]),
                                  Flat(0), Bent(1, 2)):
            self.assertIs(shows_flat(FLAT, value), False)
        self.assertIs(shows_flat(Row([1] * 2), Flat(True)), False)
        self.assertIs(shows_flat(Row([0] * 2), Flat(False)), False)
        self.assertIs(shows_flat(Row([0] * 2), Flat(0)), True)
        for value in NO_PAPERS + (Bent(4, 1), Bent(True, 4), Bent(1, 4.0), Bent(1, "4"), Bent(1, None), Bent(None, 4),
                                  Bent(ANY, 4), Bent(1, ANY), Bent([1], [4]), Bent(1, 5), Bent(1, 1), Bent(0, 4),
                                  Bent(1, 7), Bent(1, -4), Bent(1, LONG), Flat(1), Flat(2), NoFlat("count")):
            self.assertIs(shows_flat(BENT, value), False)
        self.assertIs(shows_flat(BENT, Bent(1, 4)), True)

    def test_refused(self):
        for value in NO_LOTS:
            self.refused(BadRow, ("lot",), shows_flat, value, None)
            self.refused(BadRow, ("lot",), shows_flat, value, Flat(1))
            self.refused(BadRow, ("lot",), shows_flat, value, Bent(1, 2))


class TestShowsNoFlat(Case):
    def test_all_values(self):
        for many in range(2, 20):
            for size in range(many + 1):
                reason = no_flat(many, size).reason if no_flat(many, size) is not None else None
                self.assertIs(shows_no_flat(many=many, size=size, value=None), reason is None)
                for word in ("count", "square", "listed"):
                    self.assertIs(shows_no_flat(many, size, NoFlat(word)), word == reason)

    def test_at_22_beats(self):
        self.assertIs(shows_no_flat(22, 7, NoFlat("square")), True)
        self.assertIs(shows_no_flat(22, 7, NoFlat("listed")), False)
        self.assertIs(shows_no_flat(22, 7, None), False)
        self.assertIs(shows_no_flat(21, 16, None), True)
        self.assertIs(shows_no_flat(16, 10, NoFlat("listed")), True)

    def test_bent(self):
        for value in (NoFlat(None), NoFlat(True), NoFlat("Count"), NoFlat(""), NoFlat(ANY), NoFlat(["count"]),
                      NoFlat(b"count"), Denial("noflat", "count"), Paper("noflat", "count"), "count", True, False, 0,
                      ANY, [], NoFlat, Flat(1), object()):
            self.assertIs(shows_no_flat(8, 4, value), False)
            self.assertIs(shows_no_flat(16, 6, value), False)
            self.assertIs(shows_no_flat(7, 3, value), False)

    def test_refused(self):
        for value in NO_INTEGERS + (1, 0, -5):
            self.refused(BadNumber, ("many",), shows_no_flat, value, None, None)
        for value in NO_INTEGERS + (-1, 25, LONG):
            self.refused(BadNumber, ("size",), shows_no_flat, 24, value, None)
            self.refused(BadNumber, ("size",), shows_no_flat, 24, value, NoFlat("count"))
        for many in (23, 24, 25, LONG):
            for value in (None, NoFlat("count"), NoFlat("listed"), 5):
                self.refused(TooMany, ("beats", 22), shows_no_flat, many, 4, value)


class TestShowsMostThin(Case):
    def test_all_lots(self):
        for many in range(2, 10):
            lots = all_lots(many)
            most = max(lot.total for lot in lots if is_thin(lot))
            reason = most_thin(many).reason
            other = "listed" if reason == "count" else "count"
            for lot in lots:
                right = is_thin(lot) and lot.total == most
                self.assertIs(shows_most_thin(many, MostThin(lot, reason)), right)
                self.assertIs(shows_most_thin(many, MostThin(lot, other)), False)

    def test_other_right_ones(self):
        for many in range(10, 25):
            found = most_thin(many)
            self.assertIs(shows_most_thin(many=many, value=found), True)
            for lot in (found.lot.turned(5), found.lot.mirrored()):
                self.assertIs(shows_most_thin(many, MostThin(lot, found.reason)), True)

    def test_bent(self):
        lot, less = Row.of(12, [0, 1, 4, 6]), Row.of(12, [0, 1, 4])
        self.assertIs(shows_most_thin(12, MostThin(lot, "count")), True)
        for value in (MostThin(less, "count"), MostThin(lot, "listed"), MostThin(lot, ANY), MostThin(lot, None),
                      MostThin(lot, ["count"]), MostThin(ANY, "count"), MostThin((0, 1, 4, 6), "count"),
                      MostThin(lot.times(2), "count"), MostThin(Row.of(13, [0, 1, 4, 6]), "count"),
                      MostThin(Row.of(12, [0, 1, 2, 6]), "count"), MostThin(None, "count"),
                      MostThin(Row([2, 1, 1] + [0] * 9), "count"), MostThin(Row([3, 1] + [0] * 10), "count"),
                      MostThin("lot", "count"),
                      Paper("mostthin", lot, "count"), lot, None, True, False, ANY, MostThin, Flat(1), ("count",)):
            self.assertIs(shows_most_thin(12, value), False)

    def test_refused(self):
        for value in NO_INTEGERS + (1, 0, -5):
            self.refused(BadNumber, ("many",), shows_most_thin, value, None)
        for many in (25, 999999, LONG):
            self.refused(TooMany, ("beats", 24), shows_most_thin, many, None)
            self.refused(TooMany, ("beats", 24), shows_most_thin, many, MostThin(Row([1, 0]), "count"))
