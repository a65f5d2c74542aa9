"""Points 5, 8 and 59 and the section nodearer/exact/ratios.py."""

from fractions import Fraction
from math import lcm
from random import Random

from nodearer.errors import NumberError, SizeError, TextError
from nodearer.exact.ratios import MOST, Ratio
from tests.helpers import Case


def frac(ratio):
    return Fraction(ratio.num, ratio.den)


class MakingTest(Case):
    def test_lowest_terms(self):
        for num, den in ((6, 4), (-6, 4), (0, 7), (5, 1), (-3, 9), (MOST, MOST), (-MOST, 2)):
            ratio = Ratio(num, den)
            self.exact((ratio.num, ratio.den), (Fraction(num, den).numerator, Fraction(num, den).denominator))

    def test_integer(self):
        ratio = Ratio(-3)
        self.exact((ratio.num, ratio.den), (-3, 1))
        self.assertEqual(Ratio(3, den=6), Ratio(1, 2))

    def test_most(self):
        self.assertEqual(MOST, 10 ** 2000)

    def test_bounds(self):
        self.assertEqual(Ratio(MOST).num, MOST)
        self.assertEqual(Ratio(-MOST).num, -MOST)
        self.assertEqual(Ratio(1, MOST).den, MOST)
        self.refused(NumberError, (MOST + 1,), Ratio, MOST + 1)
        self.refused(NumberError, (-MOST - 1,), Ratio, -MOST - 1, 5)
        self.refused(NumberError, (MOST + 1,), Ratio, 1, MOST + 1)
        self.refused(NumberError, (0,), Ratio, 1, 0)
        self.refused(NumberError, (-1,), Ratio, 1, -1)

    def test_passed_numbers_count_not_lowest_terms(self):
        self.refused(NumberError, (2 * MOST,), Ratio, 2 * MOST, 2)
        self.refused(NumberError, (2 * MOST,), Ratio, 2, 2 * MOST)

    def test_first_argument_first(self):
        self.refused(NumberError, (MOST + 1,), Ratio, MOST + 1, 0)


class ComputingTest(Case):
    def test_sums_differences_products(self):
        random = Random(1)
        for _ in range(300):
            a = Ratio(random.randint(-20, 20), random.randint(1, 20))
            b = Ratio(random.randint(-20, 20), random.randint(1, 20))
            n = random.randint(-9, 9)
            for value, wanted in ((a + b, frac(a) + frac(b)), (a - b, frac(a) - frac(b)), (a * b, frac(a) * frac(b)),
                                  (a + n, frac(a) + n), (a - n, frac(a) - n), (a * n, frac(a) * n),
                                  (-a, -frac(a)), (abs(a), abs(frac(a)))):
                self.assertIsInstance(value, Ratio)
                self.exact((value.num, value.den), (wanted.numerator, wanted.denominator))
            if b:
                wanted = frac(a) / frac(b)
                self.exact((a.over(b).num, a.over(b).den), (wanted.numerator, wanted.denominator))
            self.exact(a.compare(b), (frac(a) > frac(b)) - (frac(a) < frac(b)))
            self.exact(a.floor(), frac(a).__floor__())
            self.exact(a.ceil(), frac(a).__ceil__())

    def test_examples(self):
        self.assertEqual(str(Ratio(6, 4) - Ratio(2)), "-1/2")
        self.assertEqual((Ratio(7, 2).floor(), Ratio(7, 2).ceil(), Ratio(1, 3).compare(Ratio(2, 6))), (3, 4, 0))

    def test_operands_stay(self):
        a, b = Ratio(1, 2), Ratio(-1, 3)
        a + b, a - b, a * b, -b, abs(b), a.over(b), a.compare(b)
        self.exact((a.num, a.den, b.num, b.den), (1, 2, -1, 3))

    def test_integer_operand_out_of_bounds(self):
        for far in (MOST + 1, -MOST - 1):
            self.refused(NumberError, (far,), lambda: Ratio(0) + far)
            self.refused(NumberError, (far,), lambda: Ratio(0) - far)
            self.refused(NumberError, (far,), lambda: Ratio(0) * far)
        self.assertEqual(Ratio(0) * MOST, Ratio(0))
        self.assertEqual(Ratio(1) - MOST, Ratio(1 - MOST))

    def test_results_out_of_bounds(self):
        self.refused(NumberError, (MOST + 1,), lambda: Ratio(MOST) + 1)
        self.refused(NumberError, (-MOST - 1,), lambda: Ratio(-MOST) - Ratio(1))
        self.refused(NumberError, (2 * MOST,), lambda: Ratio(MOST) * Ratio(2))
        self.refused(NumberError, (2 * MOST,), lambda: Ratio(1, MOST) * Ratio(1, 2))
        self.refused(NumberError, (2 * MOST,), lambda: Ratio(1, MOST).over(Ratio(2)))
        self.refused(NumberError, (-2 * MOST,), lambda: Ratio(MOST).over(Ratio(-1, 2)))

    def test_numerator_before_denominator(self):
        big, small = Ratio(MOST, 3), Ratio(MOST - 1, MOST)
        product = Fraction(MOST, 3) * Fraction(MOST - 1, MOST)
        self.assertEqual(frac(big * small), product)
        one, two = Ratio(MOST - 1, MOST), Ratio(MOST - 3, MOST - 2)
        wanted = frac(one) * frac(two)
        self.assertGreater(wanted.numerator, MOST)
        self.assertGreater(wanted.denominator, MOST)
        self.refused(NumberError, (wanted.numerator,), lambda: one * two)

    def test_only_lowest_terms_count(self):
        self.assertEqual(Ratio(MOST, 3) * Ratio(3, MOST), Ratio(1))
        self.assertEqual(Ratio(1, MOST) + Ratio(1, MOST), Ratio(2, MOST))
        self.assertEqual(Ratio(MOST) + Ratio(-1), Ratio(MOST - 1))

    def test_over_zero(self):
        self.refused(NumberError, (0,), lambda: Ratio(1, 2).over(Ratio(0)))
        self.refused(NumberError, (0,), lambda: Ratio(0).over(Ratio(0)))

    def test_equality_and_truth(self):
        self.assertIs(Ratio(2, 4) == Ratio(1, 2), True)
        self.assertIs(Ratio(1, 2) == Ratio(1, 3), False)
        self.assertIs(Ratio(1, 2) != Ratio(1, 2), False)
        self.assertIs(Ratio(2, 3) == Ratio(1, 3), False)
        self.assertIs(Ratio(2) == 2, False)
        self.assertIs(Ratio(2) == "2", False)
        self.assertIs(Ratio(2) == None, False)  # noqa: E711
        self.assertIs(bool(Ratio(0)), False)
        self.assertIs(bool(Ratio(-1, 5)), True)


class TextTest(Case):
    def test_texts(self):
        for num, den, text in ((-3, 4, "-3/4"), (2, 1, "2"), (0, 9, "0"), (10, 4, "5/2"), (-7, 1, "-7")):
            self.exact(str(Ratio(num, den)), text)
            self.assertEqual(Ratio.read(text), Ratio(num, den))

    def test_longest_texts(self):
        text = str(Ratio(-MOST, MOST - 1))
        self.assertEqual(len(text), 2002 + 1 + 2000)
        self.assertEqual(Ratio.read(text), Ratio(-MOST, MOST - 1))
        self.assertEqual(Ratio.read(str(Ratio(MOST - 1, MOST))).den, MOST)

    def test_wrong_columns(self):
        for text, column in (("", 1), ("-", 2), ("-0", 2), ("00", 2), ("01", 2), ("0/5", 2), ("3/0", 3), ("2/4", 4),
                             ("3/1", 4), ("3/", 3), ("/2", 1), ("--1", 2), ("1/-2", 3), ("1//2", 3), ("1/2/3", 4),
                             (" 1", 1), ("1 ", 2), ("+1", 1), ("12a", 3), ("1/2 ", 4), ("2/4x", 4), ("3/1x", 4),
                             ("-6/9", 5), ("1/01", 3), ("-/2", 2), ("0x", 2), ("x", 1), ("15/10", 6), ("-2/1", 5)):
            self.refused(TextError, (1, column), Ratio.read, text)

    def test_right_although_a_beginning_is_not(self):
        self.assertEqual(Ratio.read("3/10"), Ratio(3, 10))
        self.assertEqual(Ratio.read("2/41"), Ratio(2, 41))

    def test_too_many_digits(self):
        long = "1" * 2002
        self.refused(TextError, (1, 2002), Ratio.read, long)
        self.refused(TextError, (1, 2003), Ratio.read, "-" + long)
        self.refused(TextError, (1, 2004), Ratio.read, "1/" + long)
        self.refused(TextError, (1, 2005), Ratio.read, "-1/" + long)

    def test_digits_are_looked_at_before_numbers(self):
        nines = "9" * 2001
        self.refused(NumberError, (int(nines),), Ratio.read, nines)
        self.refused(NumberError, (-int(nines),), Ratio.read, "-" + nines + "/7")
        self.refused(NumberError, (int(nines),), Ratio.read, "7/" + nines)
        self.refused(TextError, (1, 2002), Ratio.read, nines + "x")
        self.refused(TextError, (1, 2001 + 4), Ratio.read, nines + "/33")
        self.refused(NumberError, (MOST + 1,), Ratio.read, str(MOST + 1))
        self.assertEqual(Ratio.read(str(MOST)), Ratio(MOST))

    def test_full_denominator_with_common_divisor(self):
        even = "1" + "0" * 2000
        self.refused(TextError, (1, 2004), Ratio.read, "2/" + even)
        self.refused(TextError, (1, 2004), Ratio.read, "2/" + even + "1")

    def test_numerator_bound_before_denominator_bound(self):
        one, two = int("9" * 2001), int("9" * 2000 + "8")
        self.refused(NumberError, (one,), Ratio.read, str(one) + "/" + str(two))

    def test_characters(self):
        self.refused(SizeError, (5001,), Ratio.read, "x" * 5001)
        self.refused(TextError, (1, 1), Ratio.read, "x" * 5000)
        self.refused(TextError, (1, 2002), Ratio.read, "1" * 5000)


class TotalTest(Case):
    def test_sums(self):
        random = Random(2)
        for many in (0, 1, 2, 7, 50):
            ratios = [Ratio(random.randint(-9, 9), random.randint(1, 9)) for _ in range(many)]
            wanted = sum([frac(ratio) for ratio in ratios], Fraction(0))
            value = Ratio.total(ratios)
            self.exact((value.num, value.den), (wanted.numerator, wanted.denominator))
            self.assertEqual(Ratio.total(tuple(ratios)), value)

    def test_number_of_ratios(self):
        self.assertEqual(Ratio.total([Ratio(1, 2)] * 1000), Ratio(500))
        self.refused(SizeError, (1001,), lambda: Ratio.total([Ratio(1)] * 1001))

    def test_only_the_result_must_be_in_bounds(self):
        self.assertEqual(Ratio.total([Ratio(MOST), Ratio(MOST), Ratio(-MOST), Ratio(-5)]), Ratio(MOST - 5))
        self.assertEqual(Ratio.total([Ratio(1, MOST), Ratio(1, 3), Ratio(-1, MOST)]), Ratio(1, 3))
        self.refused(NumberError, (2 * MOST,), lambda: Ratio.total([Ratio(MOST), Ratio(MOST)]))

    def test_denominator_out_of_bounds(self):
        one, two = Ratio(1, MOST), Ratio(-1, MOST - 1)
        wanted = frac(one) + frac(two)
        self.assertLessEqual(abs(wanted.numerator), MOST)
        self.refused(NumberError, (wanted.denominator,), lambda: Ratio.total([one, two]))

    def test_least_common_denominator(self):
        dens = [MOST - k for k in (1, 3, 7, 9, 11, 13)]
        common = [lcm(*dens[:many]) for many in range(1, 7)]
        self.assertLessEqual(common[4], 10 ** 10000)
        self.assertGreater(common[5], 10 ** 10000)
        ratios = [Ratio(1, den) for den in dens]
        self.refused(NumberError, (common[5],), lambda: Ratio.total(ratios + [-ratio for ratio in ratios]))
        near = lcm(common[4], 10007)
        self.assertTrue(10 ** 10000 < near < 10 ** 10005)
        self.refused(NumberError, (near,), lambda: Ratio.total(ratios[:5] + [Ratio(1, 10007)] + ratios[5:]))
        few = ratios[:5]
        self.assertEqual(Ratio.total(few + [-ratio for ratio in few]), Ratio(0))

    def test_denominators_before_the_result(self):
        dens = [MOST - k for k in (1, 3, 7, 9, 11, 13)]
        with self.assertRaises(NumberError) as caught:
            Ratio.total([Ratio(MOST), Ratio(MOST)] + [Ratio(1, den) for den in dens])
        self.assertGreater(caught.exception.number, 10 ** 10000)

    def test_list_stays(self):
        ratios = [Ratio(1, 2), Ratio(1, 3)]
        Ratio.total(ratios)
        self.assertEqual(ratios, [Ratio(1, 2), Ratio(1, 3)])
