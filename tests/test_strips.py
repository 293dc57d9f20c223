"""Strips: values, edges, refusals, texts, and the facts of point 9 about them."""

import itertools

from spanalike.errors import BadNumber, BadStrip, BadText, TooMany, Twice
from spanalike.folded import folded, folded_spans
from spanalike.rows import Row
from spanalike.spans import spans
from spanalike.strips import Strip, strip_distances, strip_spans
from tests.tools import NO_INTEGERS, NO_LISTS, NO_TEXTS, Case, is_square

LONG = 10 ** 3999 + 9
NO_STRIPS = (None, True, 5, "1 0 1", [1, 0, 1], (1,), Row([1, 1]), object())


def some_strips(numbers=(-1, 0, 2), most=4):
    """All strips of some numbers, up to a length."""
    found = []
    for count in range(1, most + 2):
        for told in itertools.product(numbers, repeat=count):
            if told[0] != 0 and told[-1] != 0:
                found.append(Strip(told))
    return found


def line_product(one, other):
    found = [0] * (len(one) + len(other) - 1)
    for i, number in enumerate(one):
        for j, its in enumerate(other):
            found[i + j] += number * its
    return tuple(found)


def line_spans(numbers):
    return tuple(
        sum(numbers[i] * numbers[i + d] for i in range(len(numbers) - d)) for d in range(len(numbers))
    )


class TestMaking(Case):
    def test_attributes(self):
        strip = Strip([3, 0, -1])
        told = [strip.numbers, strip.length, strip.total, strip.is_lot, strip.marks]
        self.just(told, [(3, 0, -1), 2, 2, False, (0, 2)])
        lot = Strip((1, 0, 1, 1))
        self.just([lot.numbers, lot.length, lot.total, lot.is_lot, lot.marks], [(1, 0, 1, 1), 3, 3, True, (0, 2, 3)])
        self.just([Strip([number]).is_lot for number in (1, 2, -1)], [True, False, False])
        self.just(Strip([5]).length, 0)

    def test_refused(self):
        for value in NO_LISTS + ([], (), [0], [0, 1], [1, 0], [0] * 50):
            self.refused(BadStrip, ("numbers",), Strip, value)
        for value in NO_INTEGERS:
            self.refused(BadStrip, ("numbers",), Strip, [1, value, 1])
            self.refused(BadStrip, ("numbers",), Strip, [1] * 50 + [value])

    def test_lengths_from_0_to_40(self):
        self.just([Strip([1]).length, Strip([1] * 41).length], [0, 40])
        self.refused(TooMany, ("length", 40), Strip, [1] * 42)
        self.refused(TooMany, ("length", 40), Strip, [1] + [0] * 100 + [1])

    def test_what_is_passed_is_copied(self):
        numbers = [1, 2]
        strip = Strip(numbers=numbers)
        numbers[0] = 9
        self.just(strip.numbers, (1, 2))

    def test_equality(self):
        self.assertTrue(Strip([1, 2]) == Strip((1, 2)))
        self.assertFalse(Strip([1, 2]) != Strip((1, 2)))
        for other in (Strip([1, 2, 1]), Strip([2, 1]), (1, 2), Row([1, 2]), None):
            self.assertFalse(Strip([1, 2]) == other)
            self.assertTrue(Strip([1, 2]) != other)

    def test_listed_methods_stand_in_the_class(self):
        for name in ("at", "backward", "times", "product", "of", "read", "__eq__", "__str__"):
            self.assertIn(name, vars(Strip))


class TestForms(Case):
    def test_at(self):
        strip = Strip([5, 0, 7])
        self.just([strip.at(beat) for beat in range(-4, 6)], [0, 0, 0, 0, 5, 0, 7, 0, 0, 0])
        self.just([strip.at(beat=LONG), strip.at(-LONG)], [0, 0])

    def test_forms(self):
        strips = some_strips()
        for strip in strips:
            self.just(strip.backward().numbers, strip.numbers[::-1])
            self.just(strip.times(-3).numbers, tuple(-3 * number for number in strip.numbers))
        for one, other in itertools.product(strips[::4], strips[::3]):
            self.just(one.product(other).numbers, line_product(one.numbers, other.numbers))

    def test_lengths_of_products(self):
        one, other = Strip([1] * 21), Strip([2] * 21)
        self.just(one.product(other=other).length, 40)
        self.refused(TooMany, ("length", 40), one.product, Strip([1] * 22))

    def test_refused(self):
        strip = Strip([1, 0, 2])
        for value in NO_INTEGERS:
            self.refused(BadNumber, ("beat",), strip.at, value)
            self.refused(BadNumber, ("number",), strip.times, value)
        self.refused(BadNumber, ("number",), strip.times, 0)
        for value in NO_STRIPS:
            self.refused(BadStrip, ("other",), strip.product, value)

    def test_long_numbers(self):
        strip = Strip([LONG, 0, -LONG])
        self.just(strip.product(strip).numbers, (LONG * LONG, 0, -2 * LONG * LONG, 0, LONG * LONG))
        self.just(strip_spans(strip), (2 * LONG * LONG, 0, -LONG * LONG))
        self.just(strip.times(LONG).total, 0)


class TestOf(Case):
    def test_of(self):
        for count in range(1, 5):
            for marks in itertools.permutations(range(-2, 5), count):
                least = min(marks)
                self.just(Strip.of(marks).marks, tuple(sorted(mark - least for mark in marks)))
        self.just(Strip.of(marks=[LONG + 40, LONG]).marks, (0, 40))

    def test_refused(self):
        for value in NO_LISTS + ([], ()):
            self.refused(BadStrip, ("marks",), Strip.of, value)
        for value in NO_INTEGERS:
            self.refused(BadStrip, ("marks",), Strip.of, [1, 1, value])
        self.refused(Twice, (3,), Strip.of, [99, 3, 0, 3, 0])
        self.refused(TooMany, ("length", 40), Strip.of, [0, 41])
        self.refused(TooMany, ("length", 40), Strip.of, [0, LONG])
        self.refused(TooMany, ("length", 40), Strip.of, list(range(1000)))


class TestTexts(Case):
    def test_texts(self):
        for strip in some_strips():
            self.assertEqual(str(strip), " ".join(str(number) for number in strip.numbers))
            self.assertTrue(Strip.read(str(strip)) == strip)
        self.just(Strip.read(text=" ".join(["1"] * 41)).length, 40)
        self.just(Strip.read(" ".join(["-1"] * 41)).total, -41)
        self.assertEqual(str(Strip([LONG])), str(LONG))

    def test_what_is_no_text(self):
        for value in NO_TEXTS:
            self.refused(BadText, (0, 0), Strip.read, value)

    def test_bent_at_an_item(self):
        for item in ("", "+1", "01", "-0", "x", "-", "1" * 61, "1.0", "\u0661"):
            for index in range(4):
                items = ["1", "0", "-1", "2"]
                items[index] = item
                self.refused(BadText, (0, index), Strip.read, " ".join(items))
        self.refused(BadText, (0, 0), Strip.read, "")
        self.refused(BadText, (0, 1), Strip.read, "1 ")

    def test_zeros(self):
        self.refused(BadText, (0, 0), Strip.read, "0")
        self.refused(BadText, (0, 0), Strip.read, "0 x")
        self.refused(BadText, (0, 0), Strip.read, "0 1")
        self.refused(BadText, (0, 1), Strip.read, "1 0")
        self.refused(BadText, (0, 3), Strip.read, "1 2 0 0")
        self.refused(BadText, (0, 2), Strip.read, "1 0 x 0")

    def test_too_many(self):
        self.refused(BadText, (0, 41), Strip.read, " ".join(["1"] * 42))
        self.refused(BadText, (0, 41), Strip.read, " ".join(["1"] * 41 + ["x"]))
        self.refused(BadText, (0, 41), Strip.read, " ".join(["1"] * 5000))
        self.refused(BadText, (0, 40), Strip.read, " ".join(["1"] * 40 + ["0"]))
        self.refused(BadText, (0, 40), Strip.read, " ".join(["1"] * 40 + ["0", "1"]))


class TestSpans(Case):
    def test_spans(self):
        for strip in some_strips():
            self.just(strip_spans(strip=strip), line_spans(strip.numbers))
        for strip in some_strips((0, 1), 7):
            pairs = list(itertools.combinations(strip.marks, 2))
            wanted = tuple(len([1 for a, b in pairs if b - a == d]) for d in range(1, strip.length + 1))
            self.just(strip_distances(lot=strip), wanted)
        self.just(strip_distances(Strip([1])), ())

    def test_refused(self):
        for value in NO_STRIPS:
            self.refused(BadStrip, ("strip",), strip_spans, value)
            self.refused(BadStrip, ("lot",), strip_distances, value)
        self.refused(BadStrip, ("lot",), strip_distances, Strip([1, 2]))
        self.refused(BadStrip, ("lot",), strip_distances, Strip([-1]))


class TestFacts(Case):
    def test_spans(self):
        for strip in some_strips():
            found = strip_spans(strip)
            self.assertEqual(found[-1], strip.numbers[0] * strip.numbers[-1] if strip.length else found[0])
            self.assertNotEqual(found[-1], 0)
            self.assertEqual(found[0] + 2 * sum(found[1:]), strip.total ** 2)
            self.assertEqual(strip.product(strip.backward()).numbers[strip.length:], found)

    def test_spans_of_products(self):
        strips = some_strips()
        for one, other in itertools.product(strips[::5], strips[::4]):
            its = strip_spans(one.product(other))
            for form in (one.product(other.backward()), one.backward().product(other), one.product(other.times(-1))):
                self.assertEqual(strip_spans(form), its)

    def test_distances(self):
        for lot in some_strips((0, 1), 8):
            found = strip_distances(lot)
            self.assertEqual(sum(found), lot.total * (lot.total - 1) // 2)
            number = lot.total + 2 * sum(found[1::2]) - 2 * sum(found[::2])
            even = len([mark for mark in lot.marks if mark % 2 == 0])
            self.assertTrue(is_square(number))
            self.assertEqual(number, (2 * even - lot.total) ** 2)
            if lot.length:
                self.assertEqual(found[-1], 1)

    def test_round_a_ring(self):
        for strip in some_strips():
            for many in (2, 3, 5, 8):
                self.assertEqual(spans(folded(strip.numbers, many)), folded_spans(strip_spans(strip), many))

    def test_on_a_great_ring(self):
        lots = some_strips((0, 1), 5)
        for one, other in itertools.product(lots, repeat=2):
            many = 2 * max(one.length, other.length) + 1
            if many > 1:
                alike = strip_spans(one) == strip_spans(other)
                round_it = [spans(folded(lot.numbers, max(many, 2))) for lot in (one, other)]
                self.assertEqual(round_it[0] == round_it[1], alike)

    def test_the_least_alike_lots_have_length_11(self):
        for length in range(1, 12):
            found = {}
            for between in itertools.product((0, 1), repeat=length - 1):
                numbers = (1,) + between + (1,)
                found.setdefault(line_spans(numbers), set()).add(max(numbers, numbers[::-1]))
            most = max(len(lots) for lots in found.values())
            self.assertEqual(most > 1, length == 11)
