"""Lots that are flat together, papers on them: values, edges, refusals, and the facts of point 16 on them."""

import itertools
from unittest.mock import ANY

from spanalike.check_together import shows_together, shows_together_bar
from spanalike.errors import BadNumber, BadRow, Impossible, Misfit, TooMany
from spanalike.families import alike_lots
from spanalike.flats import flat_word
from spanalike.papers import Denial, Paper
from spanalike.rows import Row
from spanalike.together import (BentTogether, FlatTogether, TogetherBar, added_spans, exchanged, flat_together,
                                pairs_together, together_bar)
from tests.tools import LONG, NO_INTEGERS, NO_LISTS, NO_LOTS, Case, all_lots, all_marks, cross

ONE, OTHER = Row.of(9, [0, 1]), Row.of(9, [0, 2, 5])
FUNCTIONS = (added_spans, flat_together, lambda lots: shows_together(lots, None),
             lambda lots: shows_together(lots, FlatTogether(1)), lambda lots: shows_together(lots, BentTogether(1, 2)))


def plain_added(lots):
    told = [cross(lot.numbers, lot.numbers) for lot in lots]
    return tuple(sum(numbers) for numbers in zip(*told))


def are_flat(lots):
    return len(set(plain_added(lots)[1:])) == 1


def some_lists():
    """Lists of one to six lots of small rings."""
    found = []
    for many in (2, 3, 4, 5, 6):
        lots = all_lots(many)
        found += [[lot] for lot in lots]
        found += [list(pair) for pair in itertools.combinations(lots[::2], 2)]
        found += [list(three) for three in itertools.combinations(lots[::5], 3)]
        found += [[lots[0], lots[-1], lots[1], lots[2], lots[1], lots[-2]], [lots[1]] * 6]
    return found + [[ONE, OTHER], [ONE, ONE], [Row([1] * 24)] * 6]


def squares_reached(many, sizes):
    """All sums of squares, one for each lot, by the document's bounds."""
    choices = []
    for size in sizes:
        choices.append([n for n in range(many + 1) if n % 2 == size % 2 and n <= size and n <= many - size])
    return {sum(n * n for n in chosen) for chosen in itertools.product(*choices)}


def plain_bar(many, sizes):
    rest = sum(k * (k - 1) for k in sizes) % (many - 1)
    if rest:
        return ("count", rest)
    number = sum(sizes) - sum(k * (k - 1) for k in sizes) // (many - 1)
    if many % 2 == 0 and number not in squares_reached(many, sizes):
        return ("squares", number)
    return None


def some_sizes():
    for many in list(range(2, 9)) + [22, 23, 24]:
        for count in (1, 2, 3):
            step = 1 if many < 9 else 3
            for sizes in itertools.product(range(0, many + 1, step), repeat=count):
                yield many, sizes
    # the bounds by the size, and by what is left out, decide here
    for many, sizes in ((10, (0, 3, 3, 3)), (10, (10, 3, 3, 3)), (14, (0, 3, 5)), (14, (3, 5, 14)), (14, (14, 9, 3))):
        yield many, sizes
    yield 24, (12,) * 6
    yield 24, (0, 24, 1, 23, 12, 7)


def least_wide_marks(many, marks):
    return min(tuple(sorted((sign * mark + by) % many for mark in marks)) for by in range(many) for sign in (1, -1))


class TestTogether(Case):
    def test_spans_and_words(self):
        for lots in some_lists():
            told = plain_added(lots)
            self.just(added_spans(lots=lots), told)
            self.just(added_spans(tuple(lots)), told)
            found = flat_together(lots=lots)
            if are_flat(lots):
                self.assertIs(type(found), FlatTogether)
                self.just(found.parts, (told[1],))
            else:
                half = lots[0].many // 2
                pairs = itertools.combinations(range(1, half + 1), 2)
                unlike = [(one, other) for one, other in pairs if told[one] != told[other]]
                self.assertIs(type(found), BentTogether)
                self.just(found.parts, min(unlike))
            self.assertTrue(found == flat_together(tuple(lots)))
            self.assertIs(shows_together(lots, found), True)

    def test_refused(self):
        for function in FUNCTIONS + (lambda lots: exchanged(lots, None, None),):
            for value in NO_LISTS + ([], (), [ONE] * 7, [ONE] * 6 + [5], ONE):
                self.refused(BadRow, ("lots",), function, value)
            for value in NO_LOTS:
                self.refused(BadRow, ("lots",), function, [ONE, Row([0, 1]), value])
                self.refused(BadRow, ("lots",), function, [value, Row([0, 1]), ONE])
        for function in FUNCTIONS:
            self.refused(Misfit, ("beats",), function, [ONE, OTHER, Row([0] * 8)])
            self.refused(Misfit, ("beats",), function, [Row([0] * 8), ONE])


class TestBar(Case):
    def test_bar(self):
        kinds = set()
        for many, sizes in some_sizes():
            wanted = plain_bar(many, sizes)
            found = together_bar(many=many, sizes=list(sizes))
            if wanted is None:
                self.assertIs(found, None)
            else:
                kinds.add(wanted[0])
                self.assertIs(type(found), TogetherBar)
                self.just(found.parts, wanted)
            self.assertIs(shows_together_bar(many, sizes, found), True)
        self.assertEqual(kinds, {"count", "squares"})
        self.just(together_bar(14, [3, 5, 14]).parts, ("squares", 6))
        self.just(together_bar(10, [0, 3, 3, 3]).parts, ("squares", 7))

    def test_refused(self):
        for function in (together_bar, lambda many, sizes: shows_together_bar(many, sizes, None),
                         lambda many, sizes: shows_together_bar(many, sizes, TogetherBar("count", 1))):
            for value in NO_INTEGERS + (1, 25, 0, LONG):
                self.refused(BadNumber, ("many",), function, value, None)
            for value in NO_LISTS + ([], (), [1] * 7, [9], [-1], [1, 2, LONG]):
                self.refused(BadNumber, ("sizes",), function, 8, value)
            for value in NO_INTEGERS:
                self.refused(BadNumber, ("sizes",), function, 8, [1, value, 1])
        self.just(together_bar(24, [24] * 6), None)
        self.just(together_bar(2, [0]), None)


class TestPairs(Case):
    def test_pairs(self):
        for many in range(2, 8):
            leasts = sorted({least_wide_marks(many, marks) for marks in all_marks(many)})
            for size, other_size in itertools.product(range(many + 1), repeat=2):
                wanted = []
                for one in leasts:
                    for other in leasts:
                        if (len(one), len(other)) == (size, other_size) and (size != other_size or one <= other):
                            if are_flat([Row.of(many, one), Row.of(many, other)]):
                                wanted.append((one, other))
                found = pairs_together(many=many, size=size, other_size=other_size)
                self.just(tuple((one.marks, other.marks) for one, other in found), tuple(sorted(wanted)))
                self.assertIsInstance(found, tuple)
                self.assertTrue(all(isinstance(pair, tuple) for pair in found))

    def test_edges(self):
        self.just([[lot.marks for lot in pair] for pair in pairs_together(12, 0, 12)], [[(), tuple(range(12))]])
        for one, other in pairs_together(12, 6, 6) + pairs_together(11, 5, 5):
            self.assertTrue(are_flat([one, other]))
            self.assertLessEqual(one.marks, other.marks)
        self.assertTrue(pairs_together(11, 5, 5))

    def test_refused(self):
        for value in NO_INTEGERS + (1, 25, LONG):
            self.refused(BadNumber, ("many",), pairs_together, value, None, None)
        for value in NO_INTEGERS + (-1, 25, LONG):
            self.refused(BadNumber, ("size",), pairs_together, 24, value, None)
            self.refused(BadNumber, ("other_size",), pairs_together, 24, 3, value)
        for many in (13, 24):
            self.refused(TooMany, ("beats", 12), pairs_together, many, 0, 0)


class TestExchanged(Case):
    def test_right_ones(self):
        for lots in ([ONE, OTHER], (OTHER, ONE), [Row.of(7, [0, 1, 3])], [Row([1] * 4), Row([0] * 4), Row.of(4, [2])]):
            self.assertTrue(are_flat(lots))
            for number, lot in enumerate(lots):
                for other in all_lots(lot.many):
                    its = cross(other.numbers, other.numbers)
                    left = lot.left_out().numbers
                    if its in (cross(lot.numbers, lot.numbers), cross(left, left)):
                        found = exchanged(lots=lots, number=number, lot=other)
                        wanted = list(lots)
                        wanted[number] = other
                        self.assertEqual(found, tuple(wanted))
                        self.assertIsInstance(found, tuple)
                        self.assertTrue(are_flat(found))
                    else:
                        self.refused(BadRow, ("lot",), exchanged, lots, number, other)

    def test_what_is_passed_stays(self):
        lots = [ONE, OTHER]
        exchanged(lots, 1, OTHER.mirrored())
        self.assertEqual(lots, [ONE, OTHER])

    def test_refused(self):
        for value in NO_INTEGERS + (-1, 2, LONG):
            self.refused(BadNumber, ("number",), exchanged, [ONE, Row([0, 1])], value, None)
        for value in NO_LOTS:
            self.refused(BadRow, ("lot",), exchanged, [ONE, Row([0, 1])], 1, value)
        self.refused(Misfit, ("beats",), exchanged, [ONE, Row([0, 1])], 1, ONE)
        self.refused(Misfit, ("beats",), exchanged, [ONE, ONE], 1, Row([0, 1]))
        self.refused(Misfit, ("beats",), exchanged, [ONE, OTHER], 1, Row([0, 1]))
        for lots in ([ONE, ONE], [OTHER]):
            for lot in (ONE, OTHER):
                with self.assertRaises(Impossible) as caught:
                    exchanged(lots, 0, lot)
                self.assertIs(type(caught.exception.paper), BentTogether)
                self.assertTrue(caught.exception.paper == flat_together(lots))
        self.refused(BadRow, ("lot",), exchanged, [ONE, OTHER], 0, OTHER)


NO_PAPERS = (None, True, False, 0, 1, "flattogether", (1,), [1, 2], object(), ANY, FlatTogether, BentTogether,
             Paper("flattogether", 1), Denial("benttogether", 1, 4), Denial("togetherbar", "count", 4))


class TestShowsTogether(Case):
    def test_all_values(self):
        for lots in some_lists()[::3]:
            told, half = plain_added(lots), lots[0].many // 2
            for number in range(-1, max(told) + 2):
                self.assertIs(shows_together(lots, FlatTogether(number)), are_flat(lots) and number == told[1])
            for one, other in itertools.product(range(-1, half + 3), repeat=2):
                right = 1 <= one < other <= half and told[one] != told[other]
                self.assertIs(shows_together(lots=lots, value=BentTogether(one, other)), right)

    def test_bent(self):
        for value in NO_PAPERS + (FlatTogether(True), FlatTogether(1.0), FlatTogether("1"), FlatTogether(ANY),
                                  FlatTogether(None), FlatTogether((1,)), FlatTogether(LONG), BentTogether(1, 2)):
            self.assertIs(shows_together([ONE, OTHER], value), False)
        self.assertIs(shows_together([ONE, OTHER], FlatTogether(1)), True)
        for value in NO_PAPERS + (BentTogether(True, 4), BentTogether(1, 4.0), BentTogether(1, ANY),
                                  BentTogether(ANY, 4),
                                  BentTogether("1", "4"), BentTogether(None, 4), BentTogether((1,), (4,)),
                                  BentTogether(4, 1), BentTogether(1, 8), BentTogether(1, LONG), FlatTogether(2)):
            self.assertIs(shows_together([ONE, ONE], value), False)
        self.assertIs(shows_together([ONE, ONE], BentTogether(1, 4)), True)


class TestShowsTogetherBar(Case):
    def test_all_values(self):
        for many, sizes in list(some_sizes())[::17]:
            wanted = plain_bar(many, sizes)
            self.assertIs(shows_together_bar(many=many, sizes=sizes, value=None), wanted is None)
            for kind in ("count", "squares"):
                for number in range(-1, 30):
                    self.assertIs(shows_together_bar(many, sizes, TogetherBar(kind, number)), (kind, number) == wanted)

    def test_bent(self):
        self.assertIs(shows_together_bar(8, [3, 4], TogetherBar("count", 4)), True)
        for value in NO_PAPERS + (TogetherBar("count", 4.0), TogetherBar("count", True), TogetherBar("count", "4"),
                                  TogetherBar("count", ANY), TogetherBar(ANY, 4), TogetherBar("Count", 4),
                                  TogetherBar(None, 4), TogetherBar("count", None), TogetherBar("count", (4,)),
                                  TogetherBar("count", 11), TogetherBar("count", LONG), TogetherBar("squares", 4)):
            self.assertIs(shows_together_bar(8, [3, 4], value), False)
        for value in NO_PAPERS[1:] + (TogetherBar("count", 0), TogetherBar("squares", 4), BentTogether(1, 2)):
            self.assertIs(shows_together_bar(9, [2, 3], value), False)
        # a rest of 1 is no True
        self.assertEqual(plain_bar(6, (2, 3, 3, 2, 2)), ("count", 3))
        self.assertEqual(plain_bar(4, (2, 2)), ("count", 1))
        self.assertIs(shows_together_bar(4, [2, 2], TogetherBar("count", 1)), True)
        self.assertIs(shows_together_bar(4, [2, 2], TogetherBar("count", True)), False)


class TestFacts(Case):
    def test_the_common_span(self):
        for lots in some_lists():
            is_barred = together_bar(lots[0].many, [lot.total for lot in lots]) is not None
            self.assertFalse(is_barred and are_flat(lots))
            word = flat_together(lots)
            if word:
                many = lots[0].many
                self.assertEqual(sum(lot.total * (lot.total - 1) for lot in lots), word.number * (many - 1))
                if many % 2 == 0:
                    more = [sum((-1) ** mark for mark in lot.marks) for lot in lots]
                    self.assertEqual(sum(lot.total for lot in lots) - word.number, sum(n * n for n in more))
            if len(lots) == 1:
                self.assertEqual(bool(word), bool(flat_word(lots[0])))

    def test_to_9_beats_each_two_sizes_without_a_bar_have_lots(self):
        for many in range(2, 10):
            for size, other_size in itertools.combinations_with_replacement(range(many + 1), 2):
                found = pairs_together(many, size, other_size)
                self.assertEqual(together_bar(many, [size, other_size]) is None, len(found) > 0)

    def test_to_12_beats(self):
        for many in (10, 11, 12):
            for size in range(many + 1):
                for other_size in range(size, many + 1, 3):
                    found = pairs_together(many, size, other_size)
                    self.assertEqual(together_bar(many, [size, other_size]) is None, len(found) > 0)

    def test_in_the_place_of_any(self):
        for many, size, other_size in ((9, 2, 3), (8, 3, 3), (7, 3, 3), (12, 4, 5), (6, 1, 2), (10, 4, 4)):
            for lots in pairs_together(many, size, other_size)[:4]:
                number = flat_together(lots).number
                for place, lot in enumerate(lots):
                    for kin in alike_lots(lot).lots:
                        self.assertEqual(flat_together(exchanged(lots, place, kin)).number, number)
                        left = flat_together(exchanged(lots, place, kin.left_out())).number
                        self.assertEqual(left, number + many - 2 * lot.total)
