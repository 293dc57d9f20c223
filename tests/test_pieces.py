"""Pieces: values, edges, refusals, whether papers on them are right, and the facts of point 10."""

import functools
import itertools
import math
from unittest.mock import ANY

from spanalike.check_pieces import shows_same_pieces, shows_told
from spanalike.errors import BadNumber, BadPiece, BadRow, Misfit, NoBeat, TooMany, Twice
from spanalike.fewer import fewer, left_out_threes
from spanalike.papers import Denial, Paper
from spanalike.pieces import all_pieces, is_piece, piece_of, pieces
from spanalike.rebuilt import Told, rebuilt, telling_size
from spanalike.rows import Row
from spanalike.same_pieces import SamePieces, UnlikePiece, lots_with_pieces, same_pieces
from spanalike.shares import silent_divisors
from spanalike.spans import distances
from tests.tools import NO_INTEGERS, NO_LISTS, NO_ROWS, Case, all_lots, all_marks, counts_of, turned

LONG = 10 ** 3999 + 9
FOUR, OTHER = Row.of(12, [0, 1, 4, 6]), Row.of(12, [0, 1, 3, 7])
LEASTS = {}
NO_LOTS = NO_ROWS + (Row([0, 2, 1]), Row([-1, 0]))


@functools.cache
def piece(many, beats):
    """The piece of some beats: the least of the turned tuples that begin with 0."""
    forms = [tuple(sorted((beat + turn) % many for beat in beats)) for turn in range(many)]
    return min(form for form in forms if form[0] == 0)


def plain_pieces(many, marks, size):
    found = {}
    for beats in itertools.combinations(marks, size):
        key = piece(many, beats)
        found[key] = found.get(key, 0) + 1
    return tuple((key, found[key]) for key in sorted(found))


def class_leasts(many, size):
    """The ascending marks of the least lots of all classes."""
    if size == 0:
        return [()]
    if (many, size) not in LEASTS:
        behind = itertools.combinations(range(1, many), size - 1)
        LEASTS[many, size] = sorted({piece(many, (0,) + marks) for marks in behind})
    return LEASTS[many, size]


def marked_lots(most):
    """All lots with a mark of rings up to so many beats."""
    return [lot for many in range(2, most + 1) for lot in all_lots(many) if lot.total]


class TestPieceOf(Case):
    def test_piece_of(self):
        for many in range(2, 8):
            for marks in all_marks(many):
                if marks:
                    wanted = piece(many, marks)
                    for beats in (marks, list(marks[::-1]), marks[1:] + marks[:1]):
                        self.just(piece_of(many=many, beats=beats), wanted)
                    self.assertIs(is_piece(many=many, value=marks), marks == wanted)
                    self.assertIs(is_piece(many, list(marks)), marks == wanted)
        self.just(piece_of(24, [23]), (0,))
        self.just(piece_of(24, list(range(24))), tuple(range(24)))
        self.just(piece_of(12, [7, 0, 4]), (0, 3, 8))

    def test_refused(self):
        for value in NO_INTEGERS + (1, 25, -2):
            self.refused(BadNumber, ("many",), piece_of, value, None)
            self.refused(BadNumber, ("many",), is_piece, value, (0, 1))
        for value in NO_LISTS + ([], ()):
            self.refused(BadPiece, ("beats",), piece_of, 12, value)
        for value in NO_INTEGERS + (-1, 12, LONG):
            self.refused(NoBeat, (value,), piece_of, 12, [3, 3, value, None])
        self.refused(Twice, (3,), piece_of, 12, [4, 3, 1, 3, 4])

    def test_no_pieces(self):
        self.assertIs(is_piece(12, (0, 1)), True)
        for value in NO_LISTS + ([], [1], (0, 0), [0, 1, 1], [1, 0], (0, 2, 1), (0, 12), [0, -1], (0, True), [0, 1.0],
                                 ("0",), [False], (None,), [[0]], Row([1, 1]), [0, LONG], list(range(13)), [ANY]):
            self.assertIs(is_piece(12, value), False)
        self.assertIs(is_piece(12, list(range(12))), True)
        self.assertIs(is_piece(12, [0]), True)


class TestPieces(Case):
    def test_all_pieces(self):
        for many in range(2, 11):
            for size in range(1, 6):
                wanted = tuple(class_leasts(many, size)) if size <= many else ()
                self.just(all_pieces(many=many, size=size), wanted)
        self.just(all_pieces(2, 5), ())
        self.assertEqual(len(all_pieces(16, 5)), math.comb(16, 5) // 16)

    def test_pieces(self):
        for lot in marked_lots(7):
            for size in range(1, min(lot.total, 5) + 1):
                self.just(pieces(lot=lot, size=size), plain_pieces(lot.many, lot.marks, size))
        self.just(pieces(Row([1] * 16), 1), (((0,), 16),))
        self.just(pieces(Row([1] * 16), 4), tuple(
            (beats, 16 // len([turn for turn in range(16) if {(beat + turn) % 16 for beat in beats} == set(beats)]))
            for beats in class_leasts(16, 4)))

    def test_refused(self):
        for value in NO_LOTS:
            self.refused(BadRow, ("lot",), pieces, value, 0)
            self.refused(BadRow, ("lot",), lots_with_pieces, value, 0)
        for value in NO_INTEGERS + (1, 25):
            self.refused(BadNumber, ("many",), all_pieces, value, None)
        for value in NO_INTEGERS + (0, 6, -1):
            self.refused(BadNumber, ("size",), all_pieces, 24, value)
            self.refused(BadNumber, ("size",), pieces, Row([1] * 24), value)
            self.refused(BadNumber, ("size",), lots_with_pieces, Row([1] * 24), value)
        self.refused(TooMany, ("beats", 16), all_pieces, 17, 1)
        self.refused(TooMany, ("beats", 16), pieces, Row([0] * 17), 1)
        self.refused(TooMany, ("beats", 12), lots_with_pieces, Row([0] * 13), 1)
        for function in (pieces, lots_with_pieces):
            self.refused(TooMany, ("size", 0), function, Row([0] * 12), 1)
            self.refused(TooMany, ("size", 3), function, Row.of(12, [1, 2, 3]), 4)
            self.refused(TooMany, ("size", 4), function, FOUR, 5)


class TestFewer(Case):
    def test_of_lots(self):
        for lot in marked_lots(7) + [FOUR, Row.of(12, [0, 1, 2, 4, 5, 9])]:
            for size in range(2, min(lot.total, 5) + 1):
                told = plain_pieces(lot.many, lot.marks, size)
                found = fewer(many=lot.many, lot_size=lot.total, told=[[list(key), times] for key, times in told])
                self.just(found, plain_pieces(lot.many, lot.marks, size - 1))
        lot = Row.of(24, [0, 1, 5, 9, 20, 23])
        self.just(fewer(24, 6, plain_pieces(24, lot.marks, 5)), plain_pieces(24, lot.marks, 4))

    def test_of_any_counts(self):
        for many in (5, 6):
            for size in (2, 3, 4):
                known = class_leasts(many, size)
                for times in itertools.product(range(3), repeat=len(known)):
                    told = [(key, number) for key, number in zip(known, times) if number]
                    for lot_size in range(size, many + 1):
                        if told:
                            self.just(fewer(many, lot_size, told), self.wanted(many, lot_size, told))

    def wanted(self, many, lot_size, told):
        size = len(told[0][0])
        parts = {}
        for key, number in told:
            for part in itertools.combinations(key, size - 1):
                parts[piece(many, part)] = parts.get(piece(many, part), 0) + number
        if any(number % (lot_size - size + 1) for number in parts.values()):
            return None
        return tuple((key, parts[key] // (lot_size - size + 1)) for key in sorted(parts))

    def test_pieces_of_two(self):
        self.just(fewer(12, 3, [((0, 1), 1), ((0, 4), 2)]), (((0,), 3),))
        self.just(fewer(12, 4, [((0, 1), 1)]), None)
        self.just(fewer(2, 2, [((0, 1), LONG)]), (((0,), 2 * LONG),))

    def test_refused(self):
        told = [((0, 1), 1)]
        for value in NO_INTEGERS + (1, 25):
            self.refused(BadNumber, ("many",), fewer, value, None, None)
        for value in NO_INTEGERS + (1, 13, -2):
            self.refused(BadNumber, ("lot_size",), fewer, 12, value, None)
        for value in NO_LISTS + self.no_counts() + (
            [((0,), 2)], [((0, 1, 2, 3, 4, 5), 1)], [((0, 1, 2, 3), 1)],
        ):
            self.refused(BadPiece, ("told",), fewer, 12, 3, value)
        self.just(fewer(12, 6, [((0, 1, 2, 3, 4), 2)]) is None, False)
        self.refused(BadPiece, ("told",), fewer, 12, 6, [((0, 1, 2, 3, 4, 5), 2)])
        self.just(fewer(12, 2, told), (((0,), 2),))

    def no_counts(self):
        """Lists that are no counts of pieces of 12 beats."""
        return (
            [], (), [(0, 1)], [((0, 1), 0)], [((0, 1), -1)], [((0, 1), True)], [((0, 1), "1")], [((0, 1), 1.0)],
            [((0, 1), 1, 1)], [((0, 1),)], [None], [((1, 2), 1)], [((0, 7), 1)], [((0, True), 1)], [([], 1)],
            [((0, 1), 1), ((0, 1), 1)], [((0, 2), 1), ((0, 1), 1)], [((0, 1), 1), ((0, 1, 2), 1)], [(5, 1)],
            [((0, 1), 1), None], ((0, 1), 1), [((0, 1), None)], [(None, 1)], ["01"], [((0, 12), 1)],
        )


class TestLeftOut(Case):
    def test_of_lots(self):
        lots = marked_lots(7) + [Row([0] * 6), FOUR, Row.of(9, [0, 3, 6]), Row.of(9, [0, 1, 3, 4, 6, 7])]
        for lot in lots + [Row.of(24, [0, 8, 16]), Row([0] * 24)]:
            threes = plain_pieces(lot.many, lot.marks, 3)
            left = lot.left_out()
            wanted = plain_pieces(lot.many, left.marks, 3) if left.total >= 3 else ()
            found = left_out_threes(many=lot.many, lot_size=lot.total, distances=distances(lot), threes=list(threes))
            self.just(found, wanted)

    def test_of_any_counts(self):
        for lot_size in range(7):
            for told in itertools.product(range(4), repeat=3):
                for threes in ([], [((0, 1, 2), 2)], [((0, 1, 3), 1), ((0, 2, 4), 1)], [[[0, 2, 4], 7]]):
                    self.just(left_out_threes(6, lot_size, told, threes), self.wanted(6, lot_size, told, threes))

    def wanted(self, many, lot_size, told, threes):
        if many - lot_size < 3:
            return ()
        spans = [0] * many
        for distance in range(1, many):
            near = min(distance, many - distance)
            spans[distance] = told[near - 1] * (2 if 2 * near == many else 1)
        known = {tuple(key): number for key, number in threes}
        found = []
        for key in class_leasts(many, 3):
            _, a, b = key
            turns = len([t for t in range(many) if {(beat + t) % many for beat in key} == set(key)])
            number = many - 3 * lot_size + spans[a] + spans[b] + spans[b - a] - known.get(key, 0) * turns
            self.assertEqual(number % turns, 0)
            if number < 0:
                return None
            if number:
                found.append((key, number // turns))
        return tuple(found)

    def test_few_left_out(self):
        for lot_size in (10, 11, 12):
            self.just(left_out_threes(12, lot_size, [LONG] * 6, [((0, 1, 2), LONG)]), ())
        self.just(left_out_threes(12, 9, [0] * 6, []), None)
        self.just(left_out_threes(2, 0, [0], []), ())
        self.just(left_out_threes(3, 0, [0], ()), (((0, 1, 2), 1),))

    def test_refused(self):
        for value in NO_INTEGERS + (1, 25):
            self.refused(BadNumber, ("many",), left_out_threes, value, None, None, None)
        for value in NO_INTEGERS + (-1, 13):
            self.refused(BadNumber, ("lot_size",), left_out_threes, 12, value, None, None)
        for value in NO_LISTS + ([], [1] * 5, [1] * 7, [1] * 5 + [-1]):
            self.refused(BadNumber, ("distances",), left_out_threes, 12, 12, value, None)
        for value in NO_INTEGERS:
            self.refused(BadNumber, ("distances",), left_out_threes, 12, 12, [1, value, 1, 1, 1, 1], None)
        bent = [value for value in TestFewer().no_counts() if len(value) > 0]
        for value in list(NO_LISTS) + bent + [[((0, 1), 1)], [((0, 1, 2, 3), 1)], [((0, 2, 1), 1)], [((0, 1, 2), 0)]]:
            self.refused(BadPiece, ("threes",), left_out_threes, 12, 12, [1] * 6, value)


class TestSame(Case):
    def test_same_pieces(self):
        for many in (5, 6, 7):
            lots = [lot for lot in all_lots(many) if lot.total]
            for one, other in itertools.product(lots[::3], lots[::2]):
                for size in range(1, min(one.total, other.total, 5) + 1):
                    here = dict(plain_pieces(many, one.marks, size))
                    there = dict(plain_pieces(many, other.marks, size))
                    unlike = [key for key in sorted({**here, **there}) if here.get(key, 0) != there.get(key, 0)]
                    found = same_pieces(one=one, other=other, size=size)
                    if unlike:
                        self.assertIs(type(found), UnlikePiece)
                        self.just(found.parts, (unlike[0], here.get(unlike[0], 0), there.get(unlike[0], 0)))
                    else:
                        self.assertTrue(found == SamePieces(size))
                    self.assertIs(shows_same_pieces(one, other, size, found), True)

    def test_refused(self):
        full = Row([1] * 17)
        for function in (same_pieces, lambda one, other, size: shows_same_pieces(one, other, size, None),
                         lambda one, other, size: shows_same_pieces(one, other, size, SamePieces(1))):
            for value in NO_LOTS:
                self.refused(BadRow, ("one",), function, value, value, 0)
                self.refused(BadRow, ("other",), function, FOUR, value, 0)
            for value in NO_INTEGERS + (0, 6):
                self.refused(BadNumber, ("size",), function, FOUR, full, value)
            self.refused(Misfit, ("beats",), function, full, FOUR, 5)
            self.refused(TooMany, ("beats", 16), function, full, Row([0] * 17), 5)
            self.refused(TooMany, ("size", 1), function, FOUR, Row.of(12, [5]), 2)
            self.refused(TooMany, ("size", 0), function, Row([0] * 12), FOUR, 1)
            self.refused(TooMany, ("size", 4), function, FOUR, Row([1] * 12), 5)
        self.just(same_pieces(Row([1] * 16), Row([1] * 16), 5).size, 5)

    def test_shown(self):
        known = dict(plain_pieces(12, FOUR.marks, 3)), dict(plain_pieces(12, OTHER.marks, 3))
        for key in all_pieces(12, 3):
            for here, there in itertools.product(range(3), repeat=2):
                wanted = here != there and [here, there] == [told.get(key, 0) for told in known]
                self.assertIs(shows_same_pieces(FOUR, OTHER, 3, UnlikePiece(key, here, there)), wanted)
                self.assertIs(shows_same_pieces(FOUR, OTHER, 3, UnlikePiece(list(key), here, there)), wanted)
        for size in (1, 2):
            self.assertIs(shows_same_pieces(FOUR, OTHER, size, SamePieces(size)), True)
            self.assertIs(shows_same_pieces(FOUR, OTHER, 3 - size, SamePieces(size)), False)
        for size in (3, 4):
            self.assertIs(shows_same_pieces(FOUR, OTHER, size, SamePieces(size)), False)
        self.assertIs(shows_same_pieces(FOUR, Row.of(12, [5, 6]), 1, UnlikePiece((0,), 4, 2)), True)

    def test_bent_papers(self):
        self.assertIs(shows_same_pieces(FOUR, OTHER, 3, UnlikePiece((0, 1, 3), 0, 1)), True)
        for value in (
            UnlikePiece((0, 1, 3), False, True), UnlikePiece((0, 1, 3), False, 1), UnlikePiece((0, 1, 3), 0, True),
            UnlikePiece((0, 1, 3), 0, 1.0),
            UnlikePiece((0, 1, 3), None, 1), UnlikePiece((0, True, 3), 0, 1), UnlikePiece((1, 2, 4), 0, 1),
            UnlikePiece((0, 3, 1), 0, 1), UnlikePiece((0, 1), 0, 1), UnlikePiece((0, 1, 3, 7), 0, 1),
            UnlikePiece(None, 0, 1), UnlikePiece("013", 0, 1), UnlikePiece(ANY, 0, 1), UnlikePiece((0, 1, 3), ANY, 1),
            UnlikePiece((0, 1, 3), 0, ANY), UnlikePiece((0, ANY, 3), 0, 1), Denial("unlikepiece", (0, 1, 3), 0, 1),
            SamePieces(True), SamePieces(3), None, True, False, 3, ((0, 1, 3), 0, 1), ANY,
        ):
            self.assertIs(shows_same_pieces(FOUR, OTHER, 3, value), False)
        self.assertIs(shows_same_pieces(FOUR, FOUR, 1, SamePieces(1)), True)
        for value in (SamePieces(True), SamePieces(1.0), SamePieces("1"), SamePieces(ANY), SamePieces([1]),
                      Paper("samepieces", 1), UnlikePiece((0,), 4, 4), SamePieces(2), 1, True, ANY):
            self.assertIs(shows_same_pieces(FOUR, FOUR, 1, value), False)

    def test_lots_with_pieces(self):
        for many in range(2, 9):
            for lot_size in range(1, many + 1):
                leasts = class_leasts(many, lot_size)
                for size in range(1, min(lot_size, 5) + 1):
                    told = {marks: plain_pieces(many, marks, size) for marks in leasts}
                    for marks in leasts:
                        wanted = [other for other in leasts if told[other] == told[marks]]
                        lot = Row.of(many, marks).turned(1)
                        found = lots_with_pieces(lot=lot, size=size)
                        self.just([least.marks for least in found], wanted)
                        self.assertIsInstance(found, tuple)


class TestTold(Case):
    def test_telling_size(self):
        for many in range(2, 9):
            for lot_size in range(1, many + 1):
                leasts = class_leasts(many, lot_size)
                for marks in leasts:
                    rivals, size = [], 1
                    while True:
                        mine = plain_pieces(many, marks, size)
                        same = [other for other in leasts if plain_pieces(many, other, size) == mine]
                        if same == [marks]:
                            break
                        rivals.append([other for other in same if other != marks][0])
                        size += 1
                    lot = Row.of(many, marks).turned(3)
                    found = telling_size(lot=lot)
                    self.assertIs(type(found), Told)
                    self.just(found.size, size)
                    self.just([rival.marks for rival in found.rivals], rivals)
                    self.assertIs(shows_told(lot, found), True)

    def test_refused(self):
        for value in NO_LOTS + (Row([0] * 5), Row([0] * 20)):
            self.refused(BadRow, ("lot",), telling_size, value)
            self.refused(BadRow, ("lot",), shows_told, value, None)
        for many in (13, 24):
            self.refused(TooMany, ("beats", 12), telling_size, Row([1] * many))
            for value in (None, Told(1, []), 5):
                self.refused(TooMany, ("beats", 12), shows_told, Row([1] * many), value)

    def test_any_rivals(self):
        told = telling_size(FOUR)
        for rival in [lot for lot in all_lots(12) if lot.total in (4, 5)][::4]:
            wanted = rival.total == 4 and piece(12, rival.marks or (0,)) != FOUR.marks
            self.assertIs(shows_told(FOUR, Told(3, [rival, told.rivals[1]])), wanted)
            wanted = wanted and counts_of(12, rival.marks) == (1,) * 6
            self.assertIs(shows_told(FOUR, Told(3, [told.rivals[0], rival])), wanted)

    def test_bent_papers(self):
        one, two = telling_size(FOUR).rivals
        self.assertIs(shows_told(FOUR, Told(3, (one, two))), True)
        for value in (
            Told(3, [two]), Told(3, []), Told(3, [two, one]), Told(3, [one, two, two]), Told(2, [one]),
            Told(4, [one, two]), Told(True, [one, two]), Told(3.0, [one, two]), Told("3", [one, two]),
            Told(None, [one, two]), Told(3, None), Told(3, one), Told(3, [one.marks, two.marks]),
            Told(3, [Row([3, -1, 1, 1] + [0] * 8), two]), Told(3, [one, None]),
            Told(3, [Row.of(13, one.marks), two]), Told(3, [one.times(2), two]), Told(3, [one, FOUR]),
            Told(3, [one, FOUR.turned(2)]), Told(3, [ANY, two]), Told(ANY, [one, two]), Told(3, ANY), ANY,
            Paper("told", 3, (one, two)), (3, (one, two)), None, True, 3,
        ):
            self.assertIs(shows_told(FOUR, value), False)
        self.assertIs(shows_told(Row.of(12, [5]), Told(1, ())), True)
        for value in (Told(True, ()), Told(1, [one]), Told(0, ()), Told(1, None), Told(2, [Row.of(12, [4])])):
            self.assertIs(shows_told(Row.of(12, [5]), value), False)


class TestRebuilt(Case):
    def test_rebuilt(self):
        for many in range(3, 9):
            by_threes = {}
            for lot_size in range(3, many + 1):
                for marks in class_leasts(many, lot_size):
                    by_threes.setdefault(plain_pieces(many, marks, 3), []).append(marks)
            for threes, wanted in by_threes.items():
                found = rebuilt(many=many, threes=[[list(key), times] for key, times in threes])
                self.just([lot.marks for lot in found], wanted)
                self.assertIsInstance(found, tuple)
        known = class_leasts(6, 3)
        by_threes = {plain_pieces(6, marks, 3): [] for marks in all_marks(6) if len(marks) > 2}
        for marks in [marks for size in range(3, 7) for marks in class_leasts(6, size)]:
            by_threes[plain_pieces(6, marks, 3)].append(marks)
        for times in itertools.product(range(4), repeat=len(known)):
            told = tuple((key, number) for key, number in zip(known, times) if number)
            if told:
                self.just([lot.marks for lot in rebuilt(6, told)], by_threes.get(told, []))

    def test_edges(self):
        threes = plain_pieces(12, (0, 1, 2, 4, 5, 9), 3)
        self.just([lot.marks for lot in rebuilt(12, threes)], [(0, 1, 2, 4, 5, 9), (0, 1, 2, 5, 9, 10)])
        self.just(rebuilt(12, [((0, 1, 2), LONG)]), ())
        self.just([lot.marks for lot in rebuilt(12, plain_pieces(12, range(12), 3))], [tuple(range(12))])

    def test_refused(self):
        for value in NO_INTEGERS + (1, 25):
            self.refused(BadNumber, ("many",), rebuilt, value, None)
        for value in NO_LISTS + TestFewer().no_counts() + ([((0, 1), 1)], [((0,), 1)], [((0, 1, 2, 3), 1)],
                                                          [((0, 1, 2), 1), ((0, 1, 2), 1)]):
            self.refused(BadPiece, ("threes",), rebuilt, 12, value)
        self.refused(BadPiece, ("threes",), rebuilt, 24, [])
        self.refused(TooMany, ("beats", 12), rebuilt, 13, [((0, 1, 2), 1)])


class TestFacts(Case):
    def test_pieces_of_two_are_distances(self):
        for lot in marked_lots(8):
            if lot.total > 1:
                told = tuple(((0, index + 1), count) for index, count in enumerate(distances(lot)) if count)
                self.assertEqual(pieces(lot, 2), told)

    def test_turned_and_mirrored(self):
        for lot in marked_lots(7):
            for size in range(1, min(lot.total, 5) + 1):
                told = pieces(lot, size)
                self.assertEqual(pieces(Row(turned(lot.numbers, 2)), size), told)
                mirrored = sorted((piece_of(lot.many, [-beat % lot.many for beat in key]), n) for key, n in told)
                self.assertEqual(pieces(lot.mirrored(), size), tuple(mirrored))
                self.assertEqual(sum(times for _, times in told), math.comb(lot.total, size))

    def test_lots_silent_nowhere_are_told_by_their_threes(self):
        for lot in marked_lots(8) + [FOUR, OTHER]:
            if lot.total >= 3 and not silent_divisors(lot):
                self.assertEqual(len(lots_with_pieces(lot, 3)), 1)
        for many in (2, 3, 5, 7):
            for lot in all_lots(many):
                if 0 < lot.total < many:
                    self.assertEqual(silent_divisors(lot), ())

    def test_threes_tell_all_but_two_classes(self):
        for many in range(3, 13):
            for size in range(3, many + 1):
                leasts = class_leasts(many, size)
                told = {pieces(Row.of(many, marks), 3) for marks in leasts}
                self.assertEqual(len(leasts) - len(told), 1 if (many, size) == (12, 6) else 0)
                if size > 3:
                    self.assertEqual(len({pieces(Row.of(many, marks), 4) for marks in leasts}), len(leasts))
        found = lots_with_pieces(Row.of(12, [0, 1, 3, 4, 5, 8]), 3)
        self.assertEqual([lot.marks for lot in found], [(0, 1, 2, 4, 5, 9), (0, 1, 2, 5, 9, 10)])
        self.assertEqual(piece(12, tuple(-beat for beat in found[0].marks)), found[1].marks)
        self.assertEqual(telling_size(found[0]).size, 4)
