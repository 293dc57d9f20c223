"""Books: values, edges, refusals, texts, what they tell, whether papers on them are right, point 11's facts."""

import itertools
from unittest.mock import ANY

from spanalike.asking import Asked, Known, idle_sayings, next_distance, quarrels
from spanalike.books import Book
from spanalike.check_books import shows_asked, shows_judged, shows_kept
from spanalike.errors import (BadBook, BadNumber, BadRow, BadSaying, BadText, Impossible, Misfit, NoSaying, TooMany,
                              Twice)
from spanalike.judged import (Always, LotKept, Never, NoLotKept, Open, judged, kept_lots, lot_kept, many_kept,
                              sure_beats)
from spanalike.papers import Denial, Paper
from spanalike.rows import Row
from spanalike.sayings import FreeBeat, HeardDistance, HeardPiece, HeardSize, HeardSum, MarkedBeat, Saying
from spanalike.spans import distances
from tests.tools import NO_INTEGERS, NO_LISTS, NO_ROWS, NO_TEXTS, Case, all_lots, all_marks, counts_of

LONG = 10 ** 3999 + 9
SIZE, ONE, TWO, THREE = HeardSize("=", 4), HeardDistance(1, "=", 2), HeardDistance(2, "=", 1), HeardDistance(3, "=", 2)
BOOK = Book(8, [SIZE, ONE, TWO, THREE])
QUARREL = Book(8, [HeardSize("=", 3), HeardDistance(4, ">=", 2), HeardDistance(1, ">=", 3), FreeBeat(0)])
NO_LOTS = NO_ROWS + (Row([0, 2] * 4), Row([-1, 0]))
NO_BOOKS = (None, True, 8, "8 : -", (8, ()), [], {}, Row([1, 0]), SIZE, object())
NO_SAYINGS = (None, True, 5, "size = 4", ("=", 4), Row([1, 0]), Saying, HeardSize, BOOK, object(), [SIZE])


def some_books():
    """Books of small rings: without sayings, with few, with many, with equal ones, some that no lot keeps."""
    sayings = (
        HeardSize("=", 3), HeardSize("<=", 2), HeardDistance(1, "=", 1), HeardDistance(2, ">=", 2), MarkedBeat(0),
        FreeBeat(1), HeardPiece([0, 1, 3], ">=", 1), HeardSum([(1, 1), (2, -1)], "=", 0), HeardDistance(1, "<=", 0),
    )
    found = [Book(many) for many in (2, 3, 5, 7)]
    for many in (5, 6):
        for count in (1, 2, 3):
            chosen = list(itertools.combinations(sayings, count))
            found += [Book(many, told) for told in chosen[::count]]
        found.append(Book(many, sayings))
        found.append(Book(many, sayings[2:4] + sayings[2:4]))
        found.append(Book(many, [HeardSize(">=", many)] * 3))
        found.append(Book(many, [HeardSize(">=", many + 1)] * 3))
        found.append(Book(many, [HeardSize("<=", 0)]))
        found.append(Book(many, [HeardSize(">=", 0)] * 10))
    found.append(Book(4, [HeardSum([(2, 1)], "=", LONG)]))
    return found + [BOOK.without([0]), QUARREL]


def keepers(book):
    """All lots that keep a book, by its sayings one by one."""
    return [
        lot for lot in sorted(all_lots(book.many), key=lambda lot: lot.marks)
        if all(saying.keeps(lot) for saying in book.sayings)
    ]


def quarrels_of(book):
    """All quarrels with none to spare."""
    numbers, found = range(len(book)), []
    kept = {lot.marks: [saying.keeps(lot) for saying in book.sayings] for lot in all_lots(book.many)}
    for count in range(1, len(book) + 1):
        for chosen in itertools.combinations(numbers, count):
            if not any(all(told[number] for number in chosen) for told in kept.values()):
                if not any(set(other) <= set(chosen) for other in found):
                    found.append(chosen)
    return tuple(found)


def wide_class(many, marks):
    """All turned and mirrored forms of a lot, as tuples of marks."""
    return frozenset(
        tuple(sorted((sign * mark + turn) % many for mark in marks)) for turn in range(many) for sign in (1, -1)
    )


class TestMaking(Case):
    def test_attributes(self):
        sayings = [SIZE, ONE, SIZE]
        book = Book(many=8, sayings=sayings)
        sayings.pop()
        self.just([book.many, len(book), len(Book(2)), Book(12).sayings], [8, 3, 0, ()])
        self.just(book.sayings, (SIZE, ONE, SIZE))
        self.just(len(Book(12, (SIZE,) * 10)), 10)

    def test_refused(self):
        for value in NO_INTEGERS + (1, 13, -2, LONG):
            self.refused(BadNumber, ("many",), Book, value, None)
        for value in NO_LISTS:
            self.refused(BadSaying, ("sayings",), Book, 8, value)
        for value in NO_SAYINGS + (Saying(),):
            self.refused(BadSaying, ("sayings",), Book, 2, [value])
            self.refused(BadSaying, ("sayings",), Book, 2, [MarkedBeat(11)] * 11 + [value])
            self.refused(BadSaying, ("saying",), Book(8, [SIZE] * 10).with_saying, value)
        for saying in (MarkedBeat(9), FreeBeat(9), HeardDistance(5, "=", 0), HeardPiece([0, 9], "=", 0),
                       HeardSum([(1, 0), (5, 0)], "=", 0)):
            self.refused(Misfit, ("beats",), Book, 9, [SIZE] * 10 + [saying])
            self.refused(Misfit, ("beats",), Book(9, [SIZE] * 10).with_saying, saying)
            self.just(len(Book(10, [saying])), 1)
        self.refused(TooMany, ("sayings", 10), Book, 9, [SIZE] * 11)
        self.refused(TooMany, ("sayings", 10), Book(9, [SIZE] * 10).with_saying, SIZE)

    def test_equality(self):
        self.assertTrue(Book(8, [SIZE, ONE]) == Book(8, (HeardSize("=", 4), ONE)))
        self.assertFalse(Book(8, [SIZE, ONE]) != Book(8, [SIZE, ONE]))
        for other in (Book(8, [ONE, SIZE]), Book(9, [SIZE, ONE]), Book(8, [SIZE]), Book(8, [SIZE, ONE, ONE]), None, 8,
                      (8, (SIZE, ONE)), "8 : size = 4 / distance 1 = 2"):
            self.assertFalse(Book(8, [SIZE, ONE]) == other)
            self.assertTrue(Book(8, [SIZE, ONE]) != other)

    def test_with_and_without(self):
        self.just(BOOK.with_saying(saying=SIZE).sayings, (SIZE, ONE, TWO, THREE, SIZE))
        self.just(len(BOOK), 4)
        self.just(BOOK.without(numbers=[3, 1]).sayings, (SIZE, TWO))
        self.just(BOOK.without(()).sayings, BOOK.sayings)
        self.just(BOOK.without([0, 1, 2, 3]).sayings, ())
        self.just(Book(5, [SIZE, SIZE]).without([0]).sayings, (SIZE,))
        for value in NO_LISTS:
            self.refused(BadNumber, ("numbers",), BOOK.without, value)
        for value in NO_INTEGERS:
            self.refused(BadNumber, ("numbers",), BOOK.without, [9, 0, 0, value])
        for value in (-1, 4, LONG):
            self.refused(NoSaying, (value,), BOOK.without, [0, 0, value, 99])
        self.refused(NoSaying, (0,), Book(5).without, [0])
        self.refused(Twice, (2,), BOOK.without, [1, 2, 3, 2, 1])

    def test_keeps(self):
        for book in some_books():
            for lot in all_lots(book.many)[::3]:
                broken = [number for number, saying in enumerate(book.sayings) if not saying.keeps(lot)]
                self.assertIs(book.keeps(lot=lot), not broken)
                self.just(book.first_broken(lot=lot), broken[0] if broken else None)
            for function in (book.keeps, book.first_broken):
                for value in NO_LOTS:
                    self.refused(BadRow, ("lot",), function, value)
                self.refused(Misfit, ("beats",), function, Row([0] * (book.many + 1)))

    def test_listed_methods_stand_in_the_class(self):
        for name in ("with_saying", "without", "keeps", "first_broken", "read", "__len__", "__eq__", "__str__"):
            self.assertIn(name, vars(Book))


class TestTexts(Case):
    def test_texts(self):
        for book, text in (
            (Book(5), "5 : -"), (Book(12, [MarkedBeat(11)]), "12 : marked 11"),
            (BOOK.without([3, 1]), "8 : size = 4 / distance 2 = 1"),
            (Book(8, [HeardPiece([0, 1, 7], "<=", 1), HeardSum([(4, -1), (1, 2)], ">=", -3), FreeBeat(7)]),
             "8 : piece 0 1 7 <= 1 / sum 1 2 4 -1 >= -3 / free 7"),
            (Book(2, [FreeBeat(0)] * 10), "2 : " + " / ".join(["free 0"] * 10)),
        ):
            self.assertEqual(str(book), text)
            found = Book.read(text=text)
            self.assertIs(type(found), Book)
            self.assertTrue(found == book)
        for book in some_books():
            if book.many != 4:
                self.assertTrue(Book.read(str(book)) == book)

    def test_what_is_no_text(self):
        for value in NO_TEXTS:
            self.refused(BadText, (0, 0), Book.read, value)

    def test_missing_items(self):
        items = "8 : size = 4 / piece 0 1 7 <= 1 / sum 1 2 4 -1 >= -3 / marked 7".split(" ")
        for count in range(1, len(items)):
            text = " ".join(items[:count])
            if count in (5, 12, 20):
                self.assertEqual(str(Book.read(text)), text)
            else:
                self.refused(BadText, (0, count), Book.read, text)
        self.refused(BadText, (0, 1), Book.read, "8")
        self.refused(BadText, (0, 2), Book.read, "8 :")

    def test_bent_at_an_item(self):
        ten = "8 : " + " / ".join(["size = 4"] * 10)
        for text, item in (
            ("", 0), ("1 : -", 0), ("13 : -", 0), ("08 : -", 0), ("x : -", 0), ("-8 : -", 0), (" 8 : -", 0),
            ("8 ; -", 1), ("8 - -", 1), ("8  : -", 1), ("8 : - -", 3), ("8 : - / size = 4", 3), ("8 : ", 2),
            ("8 : /", 2), ("8 : --", 2), ("8 : - ", 3), ("8 : size = 4 size = 4", 5), ("8 : size = 4 -", 5),
            ("8 : size = 4 / -", 6), ("8 : size = 4 / /", 6), ("8 : size = 4 / ", 6), ("8 : size = 4 ", 5),
            ("8 : distance 5 = 1", 3), ("8 : size = 4 / distance 5 = 1", 7), ("9 : distance 5 = 1", 3),
            ("8 : marked 8", 3), ("8 : free 8", 3), ("8 : piece 0 8 = 1", 4), ("8 : piece 0 7 8 = 1", 5),
            ("8 : piece 0 7 7 = 1", 5), ("8 : sum 5 1 = 1", 3), ("8 : sum 4 1 5 1 = 1", 5), ("2 : distance 2 = 1", 3),
            ("8 : size = -1", 4), ("8 : size x", 3), ("8 : saying", 2), ("2 : piece 0 2 = 0", 4),
            (ten + " /", 41), (ten + " / size = 4", 41), (ten + " x", 41), ("8 : sum 1 1 1 1 = 0", 5),
        ):
            self.refused(BadText, (0, item), Book.read, text)
        self.just(len(Book.read(ten)), 10)


class TestJudged(Case):
    def test_kept(self):
        for book in some_books():
            wanted = keepers(book)
            self.just(many_kept(book=book), len(wanted))
            self.just(kept_lots(book=book), tuple(wanted))
            found = lot_kept(book=book)
            if wanted:
                self.assertIs(type(found), LotKept)
                self.assertIn(found.lot, wanted)
            else:
                self.assertIs(type(found), NoLotKept)
                numbers = list(range(len(book)))
                for number in range(len(book)):
                    others = [other for other in numbers if other != number]
                    if not keepers(Book(book.many, [book.sayings[other] for other in others])):
                        numbers = others
                self.just(found.numbers, tuple(numbers))
                self.assertIn(found.numbers, quarrels_of(book))
            self.assertTrue(found == lot_kept(Book(book.many, book.sayings)))
            self.assertIs(shows_kept(book, found), True)

    def test_many_lots(self):
        self.just(many_kept(Book(12)), 4096)
        self.just(len(kept_lots(Book(8))), 256)
        self.just(len(kept_lots(Book(12, [HeardSize("=", 4)]))), 495)
        self.refused(TooMany, ("lots", 500), kept_lots, Book(9))
        self.refused(TooMany, ("lots", 500), kept_lots, Book(12, [HeardSize("=", 5)]))

    def test_just_500(self):
        # all 512 but the nine pairs and the three lots of three whose distances are all 3
        book = Book(9, [HeardSum([(1, -9), (2, -9), (3, 1), (4, -9)], "<=", 0)])
        self.just(len(kept_lots(book)), 500)
        # all but those with a mark at most, and the whole ring
        book = Book(9, [HeardSum([(1, 1), (2, 1), (3, 1), (4, 1)], ">=", 1), HeardSize("<=", 8)])
        self.just(many_kept(book), 501)
        self.refused(TooMany, ("lots", 500), kept_lots, book)

    def test_judged(self):
        sayings = [HeardSize("=", 3), HeardDistance(1, ">=", 1), MarkedBeat(1), FreeBeat(0), HeardPiece([0, 2], "=", 1),
                   HeardSum([(1, 1), (2, -2)], "<=", 0), HeardSize(">=", 0), HeardSize(">=", 99)]
        for book in some_books():
            if book.many > 3:
                lots = keepers(book)
                for saying in sayings:
                    if not lots:
                        self.impossible(book, judged, book, saying)
                        continue
                    found = judged(book=book, saying=saying)
                    so = [lot for lot in lots if saying.keeps(lot)]
                    if len(so) == len(lots):
                        self.assertTrue(found == Always(len(lots)))
                    elif not so:
                        self.assertTrue(found == Never(len(lots)))
                    else:
                        self.assertIs(type(found), Open)
                        self.assertIn(found.one, so)
                        self.assertIn(found.other, lots)
                        self.assertNotIn(found.other, so)
                    self.assertTrue(found == judged(book, saying))
                    self.assertIs(shows_judged(book, saying, found), True)

    def impossible(self, book, function, *args):
        with self.assertRaises(Impossible) as caught:
            function(*args)
        self.assertTrue(caught.exception.paper == lot_kept(book))

    def test_sure_beats(self):
        for book in some_books():
            lots = keepers(book)
            if lots:
                beats = range(book.many)
                marked = tuple(beat for beat in beats if all(lot.at(beat) for lot in lots))
                free = tuple(beat for beat in beats if not any(lot.at(beat) for lot in lots))
                self.just(sure_beats(book=book), (marked, free))
            else:
                self.impossible(book, sure_beats, book)

    def test_refused(self):
        for function in (lot_kept, many_kept, kept_lots, sure_beats, next_distance, idle_sayings, quarrels,
                         lambda book: judged(book, None), lambda book: shows_kept(book, None),
                         lambda book: shows_judged(book, None, None), lambda book: shows_asked(book, None)):
            for value in NO_BOOKS:
                self.refused(BadBook, ("book",), function, value)
        for function in (judged, lambda book, saying: shows_judged(book, saying, Always(0)),
                         lambda book, saying: shows_judged(book, saying, None)):
            for value in NO_SAYINGS + (Saying(),):
                self.refused(BadSaying, ("saying",), function, QUARREL, value)
            for saying in (MarkedBeat(8), HeardDistance(5, "=", 1), HeardPiece([0, 8], "=", 0)):
                self.refused(Misfit, ("beats",), function, QUARREL, saying)


class TestAsking(Case):
    def test_next_distance(self):
        for book in some_books():
            lots = keepers(book)
            classes = {wide_class(book.many, lot.marks) for lot in lots}
            if not classes:
                TestJudged.impossible(self, book, next_distance, book)
                self.assertIs(shows_asked(book, Known(Row.of(book.many, []))), False)
                continue
            found = next_distance(book=book)
            if len(classes) == 1:
                self.assertIs(type(found), Known)
                self.just(found.lot.marks, min(list(classes)[0]))
            else:
                worst = []
                for index in range(book.many // 2):
                    told = [counts_of(book.many, min(marks))[index] for marks in classes]
                    worst.append(max(told.count(number) for number in told))
                self.assertIs(type(found), Asked)
                self.just(found.parts, (worst.index(min(worst)) + 1, min(worst)))
            self.assertIs(shows_asked(book, found), True)

    def test_asked_on_12_beats(self):
        found = next_distance(Book(12, [HeardSize("=", 6)]))
        classes = {wide_class(12, marks) for marks in itertools.combinations(range(12), 6)}
        told = [counts_of(12, min(marks)) for marks in classes]
        worst = [max([counts[index] for counts in told].count(n) for n in range(7)) for index in range(6)]
        self.just(found.parts, (worst.index(min(worst)) + 1, min(worst)))

    def test_idle_sayings(self):
        for book in some_books():
            lots = keepers(book)
            if not lots:
                TestJudged.impossible(self, book, idle_sayings, book)
                continue
            wanted = tuple(
                number for number in range(len(book)) if len(keepers(book.without([number]))) == len(lots)
            )
            self.just(idle_sayings(book=book), wanted)

    def test_quarrels(self):
        for book in some_books():
            if len(book) > 6:
                self.refused(TooMany, ("sayings", 6), quarrels, book)
            else:
                self.just(quarrels(book=book), quarrels_of(book))
        self.just(quarrels(QUARREL), ((0, 1), (0, 2)))
        self.refused(TooMany, ("sayings", 6), quarrels, Book(5, [HeardSize("=", 9)] * 7))
        self.just(quarrels(Book(5, [HeardSize("=", 9)] * 6)), tuple((number,) for number in range(6)))


class TestShown(Case):
    def test_any_lot_that_keeps_a_book(self):
        for book in some_books()[::3]:
            lots = keepers(book)
            for lot in all_lots(book.many):
                self.assertIs(shows_kept(book, LotKept(lot)), lot in lots)

    def test_any_quarrel(self):
        for book in some_books():
            if len(book) < 5:
                wanted = quarrels_of(book)
                for count in range(len(book) + 1):
                    for numbers in itertools.permutations(range(len(book)), count):
                        self.assertIs(shows_kept(book, NoLotKept(numbers)), numbers in wanted)

    def test_bent_papers_of_lots(self):
        lot = Row.of(8, [0, 1, 3, 4])
        self.assertIs(shows_kept(BOOK, LotKept(lot)), True)
        for value in (LotKept(lot.marks), LotKept(None), LotKept(True), LotKept(lot.numbers), LotKept(lot.times(2)),
                      LotKept(Row.of(9, [0, 1, 3, 4])), LotKept(ANY), Paper("lotkept", lot), lot, None, True, 8, ANY,
                      NoLotKept(()), NoLotKept((0, 1, 2, 3)), Known(lot)):
            self.assertIs(shows_kept(BOOK, value), False)
        self.assertIs(shows_kept(QUARREL, NoLotKept([0, 1])), True)
        for value in (NoLotKept((0, True)), NoLotKept((False, 1)), NoLotKept((0, 1, 2)), NoLotKept((1, 0)),
                      NoLotKept((0, 1, 1)), NoLotKept((0, 0, 1)), NoLotKept((0, 9)), NoLotKept((0, -3)), NoLotKept(()),
                      NoLotKept(0), NoLotKept(None), NoLotKept("01"), NoLotKept((0, 1.0)), NoLotKept((0, ANY)),
                      NoLotKept(ANY), NoLotKept(((0, 1),)), Denial("nolotkept", (0, 1)), (0, 1), False, None,
                      NoLotKept((3,)), NoLotKept((1, 2))):
            self.assertIs(shows_kept(QUARREL, value), False)

    def test_judged_ones(self):
        for book in some_books()[::4]:
            lots = keepers(book)
            for saying in (HeardSize("=", 2), MarkedBeat(1), HeardDistance(1, "<=", 9)):
                so = [lot for lot in lots if saying.keeps(lot)]
                for many in (0, 1, 16, len(lots), len(so), len(lots) + 1):
                    always = len(lots) > 0 and many == len(lots) == len(so)
                    never = len(lots) > 0 and many == len(lots) and not so
                    self.assertIs(shows_judged(book, saying, Always(many)), always)
                    self.assertIs(shows_judged(book, saying, Never(many)), never)
                some = all_lots(book.many)[::7]
                for one, other in itertools.product(some, repeat=2):
                    wanted = one in so and other in lots and other not in so
                    self.assertIs(shows_judged(book, saying, Open(one, other)), wanted)

    def test_bent_papers_of_what_is_judged(self):
        single = Book(2, [MarkedBeat(0), FreeBeat(1)])
        self.assertIs(shows_judged(single, MarkedBeat(0), Always(1)), True)
        self.assertIs(shows_judged(single, FreeBeat(0), Never(1)), True)
        for value in (Always(True), Always(1.0), Always("1"), Always(None), Always(ANY), Always([1]), Always(0),
                      Never(1), Paper("always", 1), 1, True, None, Open(Row([1, 0]), Row([1, 0])), ANY):
            self.assertIs(shows_judged(single, MarkedBeat(0), value), False)
        for value in (Never(True), Never(1.0), Never(None), Never(ANY), Never(0), Always(1), Denial("never", 1), False):
            self.assertIs(shows_judged(single, FreeBeat(0), value), False)
        one, other = Row([1, 0]), Row([0, 1])
        self.assertIs(shows_judged(Book(2), MarkedBeat(0), Open(one, other)), True)
        for value in (Open(other, one), Open(one, None), Open(None, other), Open(one.numbers, other), Open(one, ANY),
                      Open(ANY, other), Open(Row([1, 0, 0]), other), Open(one, Row([0, 1, 0])),
                      Open(Row([2, 0]), other), Open(one, Row([0, 2])), Paper("open", one, other), (one, other),
                      Open(one, one)):
            self.assertIs(shows_judged(Book(2), MarkedBeat(0), value), False)

    def test_of_a_book_that_no_lot_keeps_nothing_is_right(self):
        for value in (Always(0), Never(0), Always(16), Never(16), Open(Row([1] * 8), Row([0] * 8)), None, True,
                      NoLotKept((0, 1))):
            self.assertIs(shows_judged(QUARREL, SIZE, value), False)
            self.assertIs(shows_asked(QUARREL, value), False)
        for value in (Known(Row([0] * 8)), Asked(1, 0), Asked(1, 1)):
            self.assertIs(shows_asked(QUARREL, value), False)

    def test_asked_ones(self):
        three = Book(8, [HeardSize("=", 3)])
        for distance, most in itertools.product(range(-1, 6), range(6)):
            self.assertIs(shows_asked(three, Asked(distance, most)), (distance, most) == (1, 2))
        for value in (Asked(True, 2), Asked(1, 2.0), Asked(None, 2), Asked(1, None), Asked(ANY, 2), Asked(1, ANY), ANY,
                      Paper("asked", 1, 2), (1, 2), None, True, Known(Row.of(8, [0, 1, 2]))):
            self.assertIs(shows_asked(three, value), False)
        known = three.with_saying(HeardDistance(1, "=", 2))
        for lot in all_lots(8):
            self.assertIs(shows_asked(known, Known(lot)), lot.marks == (0, 1, 2))
        for value in (Known((0, 1, 2)), Known(None), Known(ANY), Known(Row.of(9, [0, 1, 2])), Asked(1, 1),
                      Paper("known", Row.of(8, [0, 1, 2])), Row.of(8, [0, 1, 2])):
            self.assertIs(shows_asked(known, value), False)


class TestFacts(Case):
    def test_turned_and_mirrored_lots_keep_it_too(self):
        for book in some_books():
            lots = keepers(book)
            if not any(isinstance(saying, (MarkedBeat, FreeBeat)) for saying in book.sayings):
                self.assertTrue(all(lot.turned(1) in lots for lot in lots))
                if not any(isinstance(saying, HeardPiece) for saying in book.sayings):
                    self.assertTrue(all(lot.mirrored() in lots for lot in lots))
                if lots:
                    marked, free = sure_beats(book)
                    self.assertEqual(marked != (), lots == [Row([1] * book.many)])
                    self.assertEqual(free != (), lots == [Row([0] * book.many)])

    def test_what_is_left_out(self):
        for many in (5, 6, 7, 8):
            for marks in all_marks(many)[::9]:
                lot = Row.of(many, marks)
                size, left = lot.total, many - lot.total
                told = list(enumerate(distances(lot)))[:2]
                here = Book(many, [HeardSize("=", size), MarkedBeat(1)] + [
                    HeardDistance(index + 1, "=", count) for index, count in told])
                more = [many - 2 * size if 2 * index + 2 != many else many // 2 - size for index, _ in told]
                if all(count + some >= 0 for (_, count), some in zip(told, more)):
                    there = Book(many, [HeardSize("=", left), FreeBeat(1)] + [
                        HeardDistance(index + 1, "=", count + some) for (index, count), some in zip(told, more)])
                    wanted = sorted(lot.left_out().marks for lot in keepers(here))
                    self.assertEqual([lot.marks for lot in kept_lots(there)], wanted)

    def test_with_a_saying_more(self):
        saying = HeardDistance(1, "<=", 2)
        for book in some_books():
            if len(book) < 10 and keepers(book.with_saying(saying)):
                more = book.with_saying(saying)
                self.assertLessEqual(many_kept(more), many_kept(book))
                for other in (HeardSize("=", 3), MarkedBeat(0), HeardDistance(1, "<=", 1)):
                    word = judged(book, other).word
                    if word != "open":
                        self.assertEqual(judged(more, other).word, word)

    def test_the_size_and_all_counts_but_one_tell_the_last(self):
        for lot in all_lots(7)[::5]:
            told = distances(lot)
            book = Book(7, [HeardSize("=", lot.total)] + [HeardDistance(d, "=", told[d - 1]) for d in (1, 3)])
            self.assertEqual(judged(book, HeardDistance(2, "=", told[1])).word, "always")
