"""What tells a lot, and counts one of which is wrong: values, edges, refusals, papers, the facts of point 12."""

import functools
import itertools
from unittest.mock import ANY

from spanalike.check_books import shows_telling, shows_wrong
from spanalike.errors import BadNumber, BadRow, Impossible, TooMany
from spanalike.papers import Denial, Paper
from spanalike.rows import Row
from spanalike.spans import distances
from spanalike.telling import Kin, Telling, fewest_distances
from spanalike.wrong import MoreWrong, OneWrong, Right, one_wrong
from tests.tools import NO_INTEGERS, NO_LISTS, NO_ROWS, Case, all_lots, counts_of

LONG = 10 ** 3999 + 9
NO_LOTS = NO_ROWS + (Row([0, 2, 1]), Row([-1, 0]))
KINDRED = Row.of(8, [0, 1, 3, 4]), Row.of(8, [0, 1, 2, 5])


@functools.cache
def wide_class(many, marks):
    return frozenset(
        tuple(sorted((sign * mark + turn) % many for mark in marks)) for turn in range(many) for sign in (1, -1)
    )


@functools.cache
def others(many, marks):
    """The marks and the counts of all lots of the size of a lot that are not in its wide class."""
    mine = wide_class(many, marks)
    return [
        (other, counts_of(many, other)) for other in itertools.combinations(range(many), len(marks))
        if other not in mine
    ]


def are_same(one, other, chosen):
    return all(one[distance - 1] == other[distance - 1] for distance in chosen)


def tell(many, marks, chosen):
    """Whether some distances tell a lot."""
    mine = counts_of(many, marks)
    return not any(are_same(mine, its, chosen) for _, its in others(many, marks))


def choices(many, count):
    return list(itertools.combinations(range(1, many // 2 + 1), count))


def fewest(many, marks):
    """All tuples of fewest distances that tell a lot, () if it has a kin."""
    for count in range(many // 2 + 1):
        found = [chosen for chosen in choices(many, count) if tell(many, marks, chosen)]
        if found:
            return found
    return []


class TestTelling(Case):
    def lots(self):
        return [lot for many in range(2, 8) for lot in all_lots(many)] + all_lots(8)[::7] + all_lots(9)[::31]

    def test_fewest_distances(self):
        for lot in self.lots():
            wanted = fewest(lot.many, lot.marks)
            if not wanted:
                with self.assertRaises(Impossible) as caught:
                    fewest_distances(lot)
                kin = caught.exception.paper
                self.assertIs(type(kin), Kin)
                self.is_rival(lot, kin.lot, range(1, lot.many // 2 + 1))
                self.assertIs(shows_telling(lot, kin), True)
                continue
            found = fewest_distances(lot=lot)
            self.assertIs(type(found), Telling)
            self.just(found.distances, wanted[0])
            lesser = choices(lot.many, len(wanted[0]) - 1) if wanted[0] else []
            self.assertEqual(len(found.rivals), len(lesser))
            for chosen, rival in zip(lesser, found.rivals):
                self.is_rival(lot, rival, chosen)
            self.assertIs(shows_telling(lot, found), True)
            self.assertTrue(found == fewest_distances(Row(lot.numbers)))

    def is_rival(self, lot, rival, chosen):
        self.assertIn((rival.marks, distances(rival)), others(lot.many, lot.marks))
        self.assertTrue(are_same(distances(lot), distances(rival), chosen))

    def test_lots_with_a_kin(self):
        for one, other in (KINDRED, (Row.of(12, [0, 1, 4, 6]), Row.of(12, [0, 1, 3, 7]))):
            for lot, its in ((one, other), (other, one)):
                with self.assertRaises(Impossible) as caught:
                    fewest_distances(lot)
                self.assertEqual(distances(caught.exception.paper.lot), distances(its))
                self.assertIs(shows_telling(lot, Kin(its)), True)
                self.assertIs(shows_telling(lot, Kin(lot)), False)

    def test_no_distances(self):
        for lot in (Row.of(9, [5]), Row([0] * 12), Row([1] * 12), Row([1] * 11 + [0]), Row([1, 0])):
            self.just(fewest_distances(lot).parts, ((), ()))

    def test_refused(self):
        for function in (fewest_distances, lambda lot: shows_telling(lot, None),
                         lambda lot: shows_telling(lot, Telling([], []))):
            for value in NO_LOTS:
                self.refused(BadRow, ("lot",), function, value)
            for many in (13, 24):
                self.refused(TooMany, ("beats", 12), function, Row([0] * many))

    def test_any_distances_and_rivals(self):
        lot = Row.of(8, [3, 4, 6])
        wanted = fewest(8, lot.marks)
        self.assertGreater(len(wanted), 1)
        found = fewest_distances(lot)
        for count in range(5):
            for chosen in choices(8, count):
                self.assertIs(shows_telling(lot, Telling(chosen, found.rivals)), chosen in wanted)
        for index, distance in enumerate((1, 2, 3, 4)):
            for rival in all_lots(8):
                right = (rival.marks, distances(rival)) in others(8, lot.marks)
                right = right and are_same(distances(lot), distances(rival), [distance])
                rivals = list(found.rivals)
                rivals[index] = rival
                self.assertIs(shows_telling(lot, Telling(wanted[0], rivals)), right)

    def test_any_kin(self):
        lot = KINDRED[0]
        for other in all_lots(8):
            wanted = other.total == 4 and distances(other) == distances(lot)
            wanted = wanted and other.marks not in wide_class(8, lot.marks)
            self.assertIs(shows_telling(lot, Kin(other)), wanted)

    def test_bent_papers(self):
        lot, rival = Row.of(8, [0, 1, 2]), Row.of(8, [0, 2, 3])
        self.assertIs(shows_telling(lot, Telling([1], [rival])), True)
        for value in (
            Telling([True], [rival]), Telling([1.0], [rival]), Telling(["1"], [rival]), Telling([None], [rival]),
            Telling(1, [rival]), Telling(None, [rival]), Telling([ANY], [rival]), Telling(ANY, [rival]),
            Telling([1], [ANY]), Telling([1], ANY), Telling([1], rival), Telling([1], []), Telling([1], [rival, rival]),
            Telling([1], [rival.marks]), Telling([1], [None]), Telling([1], [lot]), Telling([1], [lot.turned(1)]),
            Telling([1], [Row([2, 0, 2, -1, 0, 0, 0, 0])]), Kin(Row([2, 0, 2, -1, 0, 0, 0, 0])),
            Telling([1], [Row.of(9, [0, 2, 3])]), Telling([1], [rival.times(2)]), Telling([2], [rival]),
            Telling([1, 2], [rival] * 4), Telling([], []), Telling([5], [rival]), Telling([0], [rival]),
            Telling([-3], [rival]), Paper("telling", (1,), (rival,)), ((1,), (rival,)), None, True, ANY, Kin(rival),
            Kin(None), Kin(ANY), Telling([1, 1], [rival] * 4), Telling([2, 1], [rival] * 4), Telling([1] * 99, []),
        ):
            self.assertIs(shows_telling(lot, value), False)
        for value in (Kin(KINDRED[1].marks), Kin(None), Kin(ANY), Kin(Row.of(9, [0, 1, 2, 5])), Telling([], []),
                      Denial("kin", KINDRED[1]), KINDRED[1], Kin(KINDRED[0]), Kin(KINDRED[0].mirrored())):
            self.assertIs(shows_telling(KINDRED[0], value), False)

    def test_facts(self):
        for lot in self.lots()[::5]:
            many, marks = lot.many, lot.marks
            for count in range(many // 2):
                for chosen in choices(many, count):
                    if tell(many, marks, chosen):
                        for distance in range(1, many // 2 + 1):
                            self.assertTrue(tell(many, marks, chosen + (distance,)))
            self.assertEqual(fewest(many, marks), fewest(many, lot.left_out().marks))


class TestWrong(Case):
    def known(self, many):
        return {(lot.total, distances(lot)) for lot in all_lots(many)}

    def some_counts(self):
        for many in range(2, 7):
            for size in range(many + 1):
                for counts in itertools.product(range(5), repeat=many // 2):
                    yield many, size, counts
        for counts in itertools.product(range(4), repeat=4):
            yield 8, 4, counts

    def wanted(self, known, many, size, counts):
        """All (distance, number) by which a count can be righted."""
        return [
            (index + 1, number) for index in range(many // 2) for number in range(many * many)
            if number != counts[index] and (size, counts[:index] + (number,) + counts[index + 1:]) in known
        ]

    def test_one_wrong(self):
        known = {many: self.known(many) for many in range(2, 9)}
        for many, size, counts in self.some_counts():
            found = one_wrong(many=many, size=size, counts=list(counts))
            if (size, counts) in known[many]:
                self.assertIs(type(found), Right)
                self.has(many, size, counts, found.lot)
            else:
                rows = self.wanted(known[many], many, size, counts)
                if rows:
                    self.assertIs(type(found), OneWrong)
                    self.just([row[:2] for row in found.rows], rows)
                    for distance, number, lot in found.rows:
                        told = counts[:distance - 1] + (number,) + counts[distance:]
                        self.has(many, size, told, lot)
                else:
                    self.assertTrue(found == MoreWrong())
            self.assertTrue(found == one_wrong(many, size, counts))
            self.assertIs(shows_wrong(many, size, counts, found), True)
            self.assertIs(shows_wrong(many, size, counts, MoreWrong()), found == MoreWrong())

    def has(self, many, size, counts, lot):
        self.assertEqual((lot.many, lot.total, counts_of(many, lot.marks)), (many, size, counts))

    def test_on_12_beats(self):
        self.assertIs(type(one_wrong(12, 4, [1] * 6)), Right)
        self.just([row[:2] for row in one_wrong(12, 4, [1] * 5 + [2]).rows][-1], (6, 1))
        self.just([row[:2] for row in one_wrong(12, 4, [LONG] + [1] * 5).rows], [(1, 1)])
        self.assertIs(type(one_wrong(12, 4, [LONG, LONG] + [1] * 4)), MoreWrong)
        self.just(one_wrong(12, 0, [0, 5, 0, 0, 0, 0]).rows, ((2, 0, Row([0] * 12)),))
        self.just(one_wrong(12, 12, [12] * 5 + [7]).rows, ((6, 6, Row([1] * 12)),))

    def test_refused(self):
        for function in (one_wrong, lambda many, size, counts: shows_wrong(many, size, counts, None),
                         lambda many, size, counts: shows_wrong(many, size, counts, MoreWrong())):
            for value in NO_INTEGERS + (1, 25):
                self.refused(BadNumber, ("many",), function, value, None, None)
            for value in NO_INTEGERS + (-1, 14):
                self.refused(BadNumber, ("size",), function, 13, value, None)
            for value in NO_LISTS + ([], [1] * 5, [1] * 7, [1] * 5 + [-1]):
                self.refused(BadNumber, ("counts",), function, 13, 3, value)
            for value in NO_INTEGERS:
                self.refused(BadNumber, ("counts",), function, 13, 3, [1, value, 1, 1, 1, 1])
            self.refused(TooMany, ("beats", 12), function, 13, 3, [1] * 6)

    def test_any_lots(self):
        for lot in all_lots(8)[::3]:
            for size, counts in ((3, (2, 1, 0, 0)), (4, (2, 1, 2, 1)), (0, (0, 0, 0, 0))):
                wanted = lot.total == size and counts_of(8, lot.marks) == counts
                self.assertIs(shows_wrong(8, size, counts, Right(lot)), wanted)
                self.assertIs(shows_wrong(8, size, counts, OneWrong([(1, 0, lot)])), False)
        for lot in all_lots(8):
            first, last = one_wrong(8, 3, [2, 1, 1, 0]).rows
            right = lot.total == 3 and counts_of(8, lot.marks) == (1, 1, 1, 0)
            self.assertIs(shows_wrong(8, 3, [2, 1, 1, 0], OneWrong([(1, 1, lot), last])), right)
            right = lot.total == 3 and counts_of(8, lot.marks) == (2, 1, 0, 0)
            self.assertIs(shows_wrong(8, 3, [2, 1, 1, 0], OneWrong([first, [3, 0, lot]])), right)

    def test_bent_papers(self):
        counts = [2, 1, 1, 0]
        first, last = one_wrong(8, 3, counts).rows
        lot = first[2]
        self.assertIs(shows_wrong(8, 3, counts, OneWrong([first, last])), True)
        for value in (
            OneWrong([first]), OneWrong([last]), OneWrong([last, first]), OneWrong([first, last, last]), OneWrong([]),
            OneWrong([(True, 1, lot), last]), OneWrong([(1, True, lot), last]), OneWrong([(1, 1.0, lot), last]),
            OneWrong([(1, 2, lot), last]), OneWrong([(2, 1, lot), last]), OneWrong([(1, 1), last]),
            OneWrong([(1, 1, lot, lot), last]), OneWrong([None, last]), OneWrong(["11x", last]), OneWrong(None),
            OneWrong(5), OneWrong([(1, 1, None), last]), OneWrong([(1, 1, lot.marks), last]), OneWrong(first),
            OneWrong([(1, 1, Row.of(9, lot.marks)), last]), OneWrong([(ANY, 1, lot), last]), OneWrong(ANY),
            OneWrong([(1, ANY, lot), last]), OneWrong([(1, 1, ANY), last]), OneWrong([ANY, last]), OneWrong([[], last]),
            MoreWrong(), Right(lot), Denial("onewrong", (first, last)), (first, last), None, True, ANY,
            OneWrong([(3, 0, last[2]), (1, 1, lot)]), OneWrong([("1", "1", lot), last]),
        ):
            self.assertIs(shows_wrong(8, 3, counts, value), False)
        for value in (Right(None), Right(ANY), Right(lot.marks), Right(True), Right(lot), Right(Row.of(9, [0, 1, 2])),
                      Paper("right", Row.of(8, [0, 1, 2])), Row.of(8, [0, 1, 2]), MoreWrong(), OneWrong([])):
            self.assertIs(shows_wrong(8, 3, [2, 1, 0, 0], value), False)
        self.assertIs(shows_wrong(8, 3, [2, 1, 0, 0], Right(Row.of(8, [4, 5, 6]))), True)
        for value in (OneWrong([]), OneWrong([(1, 3, lot)]), Right(lot), Denial("morewrong"), None, False, 3):
            self.assertIs(shows_wrong(8, 3, [3, 0, 0, 0], value), False)
        self.assertIs(shows_wrong(8, 3, [3, 0, 0, 0], MoreWrong()), True)

    def test_facts(self):
        for many in (5, 6, 7):
            for size, counts in self.known(many):
                self.assertEqual(sum(counts), size * (size - 1) // 2)
                for index in range(many // 2):
                    told = list(counts)
                    told[index] += 1
                    found = one_wrong(many, size, told)
                    self.assertIs(type(found), OneWrong)
                    self.assertIn((index + 1, counts[index]), [row[:2] for row in found.rows])
                    self.assertEqual(len({row[0] for row in found.rows}), len(found.rows))
