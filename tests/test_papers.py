"""Points 2 to 5, 8, 24, 37, 58 and 59 and the section nodearer/texts/papers.py."""

from random import Random

from nodearer.errors import NumberError, SizeError, TextError, ThingError, WeightError
from nodearer.exact.ratios import MOST, Ratio
from nodearer.families.counts import Choice, Groups
from nodearer.prices.settle import settle
from nodearer.shares.mixtures import Mixture
from nodearer.texts.papers import ladder_text, mixture_text, prices_text, read_ladder, read_mixture, read_prices
from nodearer.walks.ladders import judge_ladder
from nodearer.walks.walker import Walker
from nodearer.wishes.books import Book
from tests.grammar import changes, wrong_line
from tests.helpers import Case
from tests.plans import FAMILIES, HALF, KINDS, R, borne, fine_shares, mixed, ratio_for, ratios_for, some_book

THREE = Mixture(3, [(HALF, [2]), (R(1, 3), [0, 1]), (R(1, 6), [])])
THREE_TEXT = "1/6\n1/2 2\n1/3 0 1"
LADDER = [("split", (1, -1, 0), R(1, 2), R(3)), ("base",), ("drop", 4), ("base",)]
LADDER_TEXT = "split 1 -1 0 1/2 3\nbase\ndrop 4\nbase"
LONG = 10 ** 2001 - 1


def place_of_fault(symbol, text):
    """The line and the column of point 59, or None."""
    for at, line in enumerate(text.split("\n") if text else []):
        column = wrong_line(symbol, line)
        if column is not None:
            return at + 1, column
    return None


class PaperCase(Case):
    def wrong(self, symbol, read, text, line, column):
        self.assertEqual(place_of_fault(symbol, text), (line, column), text[:60])
        self.refused(TextError, (line, column), read, text)

    def changed(self, symbol, read, text, characters, errors):
        """One character inserted, replaced or removed, or the text cut, at every place."""
        for other, _ in changes(text, characters):
            place = place_of_fault(symbol, other)
            if place is not None:
                self.refused(TextError, place, read, other)
                continue
            try:
                read(other)
            except errors:
                continue

    def too_long(self, call):
        for text in ("x" * 20001, "\n" * 20001, "1\n" * 15000):
            self.refused(SizeError, (len(text),), call, text)


class MixtureTest(PaperCase):
    def test_told(self):
        self.exact(self.asked(mixture_text, THREE), THREE_TEXT)
        self.assertEqual(self.asked(read_mixture, 3, THREE_TEXT), THREE)
        self.exact(mixture_text(Mixture(0, [(R(1), [])])), "1")
        self.assertEqual(read_mixture(0, "1"), Mixture(0, [(R(1), [])]))
        self.assertEqual(read_mixture(5, "1"), Mixture(5, [(R(1), [])]))
        # Lots may be out of order and occur twice.
        self.assertEqual(read_mixture(3, "1/3 1 0 1\n1/4 2\n1/6\n1/4 2 2"), THREE)

    def test_inverse(self):
        random = Random(113)
        for family in FAMILIES:
            table = mixed(random, list(family.bases()))
            mixture = Mixture(family.things, [(ratio_for(weight), lot) for lot, weight in table.items()])
            text = mixture_text(mixture)
            self.exact(text, "\n".join([" ".join([str(weight)] + [str(thing) for thing in lot])
                                        for weight, lot in mixture.pairs]))
            self.assertIsNone(place_of_fault(("mixture line",), text))
            self.assertEqual(read_mixture(family.things, text), mixture)

    def test_columns(self):
        for text, line, column in (
                ("\n", 1, 1), (" 1", 1, 1), ("1 ", 1, 3), ("1  0", 1, 3), ("1 0 ", 1, 5), ("1/2 0\n", 2, 1),
                ("1/2 0\n\n1/2 1", 2, 1), ("-0", 1, 2), ("0/5", 1, 2), ("3/0", 1, 3), ("2/4", 1, 4), ("3/1", 1, 4),
                ("2/4 0", 1, 4), ("6/15 0 x", 1, 5), ("-", 1, 2), ("1/", 1, 3), ("1/-2", 1, 3), ("01", 1, 2),
                ("1/02", 1, 3), ("1/2 1/2", 1, 6), ("1/2 00", 1, 6), ("1/2 -0", 1, 6), ("1/2 12345678", 1, 12),
                ("1/2 -1234567 -", 1, 15), ("1/2,0", 1, 4), ("1/2 0\n1/2x", 2, 4), ("+1", 1, 1), ("x", 1, 1)):
            self.wrong(("mixture line",), lambda told: read_mixture(3, told), text, line, column)

    def test_every_change(self):
        for text in (THREE_TEXT, "10/21 12 0\n-11/21 1"):
            self.changed(("mixture line",), lambda told: read_mixture(3, told), text, "0 -/2\n",
                         (SizeError, NumberError, ThingError, WeightError))

    def test_lengths(self):
        long = "1" + " 0" * 9999
        self.assertEqual(len(long), 19999)
        self.refused(SizeError, (9999,), read_mixture, 3, long)
        self.refused(TextError, (1, 20001), read_mixture, 3, long + " ")
        for things in (3, 11, -1):
            self.too_long(lambda text: read_mixture(things, text))

    def test_digits(self):
        nines = "9" * 2001
        for text, column in ((nines + "9", 2002), ("-" + nines + "9", 2003), ("1/" + nines + "8", 2004),
                             (nines + "/7" + nines[1:] + "7", 4004)):
            self.wrong(("mixture line",), lambda told: read_mixture(3, told), text, 1, column)
        self.refused(NumberError, (LONG,), read_mixture, 3, "-1\n" + nines + "/10")
        self.refused(NumberError, (-LONG,), read_mixture, 3, "0 7\n-" + nines + "/" + "1" + "0" * 2000)
        self.refused(NumberError, (LONG,), read_mixture, 3, "1/" + nines)
        # MOST is a numerator and a denominator that is allowed.
        self.refused(WeightError, (0,), read_mixture, 3, "-" + str(MOST) + " 9")
        self.refused(NumberError, (MOST,), read_mixture, 3, "1/" + str(MOST))

    def test_objects(self):
        """The things first, then the form, then the ratios, then the mixture."""
        for text in ("x", "1/2 9", "1/0", ""):
            self.refused(NumberError, (11,), read_mixture, 11, text)
            self.refused(NumberError, (-1,), read_mixture, -1, text)
        self.refused(SizeError, (0,), read_mixture, 3, "")
        self.refused(WeightError, (1,), read_mixture, 3, "1 0\n0 1")
        self.refused(WeightError, (0,), read_mixture, 3, "-1 7")
        self.refused(ThingError, (7,), read_mixture, 3, "1 0 7\n0 1")
        self.refused(ThingError, (-1,), read_mixture, 3, "1 -1")
        self.refused(ThingError, (0,), read_mixture, 0, "1 0")
        self.refused(WeightError, (-1,), read_mixture, 3, "1/2 0\n1/3 1")
        self.refused(SizeError, (61,), read_mixture, 3, "1" + " 0" * 61)
        self.refused(SizeError, (1001,), read_mixture, 3, "\n".join(["1/1001 0"] * 1001))
        self.refused(NumberError, (10 ** 41,), read_mixture, 3, f"1/{10 ** 41} 0\n{10 ** 41 - 1}/{10 ** 41} 1")


class PricesTest(PaperCase):
    def test_told(self):
        prices = [R(-3, 4), R(2), R(0), R(1, 7)]
        for told in (prices, tuple(prices)):
            self.exact(self.asked(prices_text, told), "-3/4\n2\n0\n1/7")
        self.exact(self.asked(read_prices, "-3/4\n2\n0\n1/7"), prices)
        self.exact((prices_text([]), prices_text(()), read_prices("")), ("", "", []))
        self.exact(read_prices("1\n1\n1\n1\n1"), [R(1)] * 5)
        far = [R(MOST), R(-1, MOST), R(MOST - 1, MOST)]
        self.exact(read_prices(prices_text(far)), far)
        read_prices("1").append(R(3))
        self.exact(read_prices("1"), [R(1)])

    def test_inverse(self):
        random = Random(114)
        for _ in range(40):
            prices = [R(random.randint(-99, 99), random.randint(1, 10 ** random.randint(0, 30))) for _ in range(5)]
            self.exact(read_prices(prices_text(prices)), prices)

    def test_columns(self):
        for text, line, column in (
                ("\n", 1, 1), (" ", 1, 1), ("1 ", 1, 2), ("1\n", 2, 1), ("1\n\n1", 2, 1), ("-0", 1, 2), ("0/5", 1, 2),
                ("00", 1, 2), ("3/0", 1, 3), ("2/4", 1, 4), ("3/1", 1, 4), ("3/1x", 1, 4), ("1/2/3", 1, 4),
                ("1\n2\n3/", 3, 3), ("1.5", 1, 2), ("1\n-", 2, 2), ("--1", 1, 2), ("-1/2 ", 1, 5), ("1/2 1/2", 1, 4)):
            self.wrong(("price line",), read_prices, text, line, column)

    def test_every_change(self):
        self.changed(("price line",), read_prices, "-3/14\n0\n120/11", "0 -/2\n", (SizeError, NumberError))

    def test_sizes(self):
        self.refused(SizeError, (6,), prices_text, [R(0)] * 6)
        self.refused(SizeError, (6,), read_prices, "\n".join(["1"] * 6))
        # The number of lines is looked at after the form of all, and before the ratios are made.
        self.refused(SizeError, (9,), read_prices, "\n".join(["9" * 2001] + ["1"] * 8))
        self.refused(TextError, (7, 2), read_prices, "\n".join(["1"] * 6 + ["00"]))
        self.refused(TextError, (10000, 1), read_prices, "1\n" * 9999)
        self.refused(SizeError, (10000,), read_prices, "1\n" * 9999 + "1")
        self.too_long(read_prices)

    def test_numbers(self):
        nines = "9" * 2001
        self.refused(NumberError, (LONG,), read_prices, "1\n" + nines + "\n-" + nines)
        self.refused(NumberError, (-LONG,), read_prices, "-" + nines + "/" + str(MOST))
        self.refused(NumberError, (LONG,), read_prices, "1/" + nines)
        self.refused(TextError, (1, 2002), read_prices, nines + "0")
        self.refused(TextError, (1, 2004), read_prices, "7/" + nines + "0")
        self.exact(read_prices(str(MOST)), [R(MOST)])


class LadderTest(PaperCase):
    def test_told(self):
        listed = [("split", [1, -1, 0], R(1, 2), R(3))] + LADDER[1:]
        for lines in (LADDER, tuple(LADDER), listed):
            self.exact(self.asked(ladder_text, lines), LADDER_TEXT)
        self.exact(self.asked(read_ladder, 3, LADDER_TEXT), LADDER)
        self.exact((ladder_text([]), ladder_text(()), read_ladder(3, ""), read_ladder(0, "")), ("", "", [], []))
        # Indexes, steps and entries that no right ladder has are right by the form.
        text = "drop -1\nsplit 0 0 0 0 -1/2\ndrop 0"
        self.exact(read_ladder(3, text), [("drop", -1), ("split", (0, 0, 0), R(0), R(-1, 2)), ("drop", 0)])
        self.exact(ladder_text(read_ladder(3, text)), text)
        self.exact(read_ladder(0, "split 1 2"), [("split", (), R(1), R(2))])
        self.exact(ladder_text([("split", (), R(1), R(2))]), "split 1 2")

    def test_walks(self):
        random = Random(115)
        seen = set()
        for kind in KINDS:
            for family in FAMILIES:
                shares = borne(random, family)
                book, told = some_book(random, family, shares, kind), ratios_for(shares)
                walker = Walker(book, told)
                walker.run()
                lines = walker.ladder()
                text = ladder_text(lines)
                self.assertIsNone(place_of_fault(("ladder line", family.things), text))
                if len(text) <= 20000 and len(lines) <= 1000:
                    self.exact(read_ladder(family.things, text), lines)
                    self.assertTrue(judge_ladder(book, told, read_ladder(family.things, text)))
                seen |= {line[0] for line in lines}
        self.assertEqual(seen, {"base", "split", "drop"})

    def test_columns(self):
        for text, line, column in (
                ("\n", 1, 1), (" base", 1, 1), ("base ", 1, 5), ("bas", 1, 4), ("bass", 1, 4), ("b\n", 1, 2),
                ("base\n", 2, 1), ("base\n\nbase", 2, 1), ("drop", 1, 5), ("drop ", 1, 6), ("drop 1 ", 1, 7),
                ("drop 1/2", 1, 7), ("drop -0", 1, 7), ("drop 00", 1, 7), ("drop  1", 1, 6), ("dropx", 1, 5),
                ("split", 1, 6), ("split 1 1 1", 1, 12), ("split 1 1 1 1", 1, 14), ("split 1 1 1 1 ", 1, 15),
                ("split 1 1 1 1 1 1", 1, 16), ("split 1 1 1 1 1 ", 1, 16), ("split 1 1/2 1 1 1", 1, 10),
                ("split 1 1 1 2/4 1", 1, 16), ("split 1 1 1 1 3/1", 1, 18), ("split 1 1 1 1/2x", 1, 16),
                ("split 1 1 1 0/2 1", 1, 14), ("split 1 -0 1 1 1", 1, 10), ("split 1  1 1 1", 1, 9),
                ("split (1 1 1) 1 1", 1, 7), ("base\nsplit 1 1 1 1 1\nBase", 3, 1), ("drop 1\ndrop", 2, 5)):
            self.wrong(("ladder line", 3), lambda told: read_ladder(3, told), text, line, column)
        self.wrong(("ladder line", 4), lambda told: read_ladder(4, told), LADDER_TEXT, 1, 15)
        self.wrong(("ladder line", 2), lambda told: read_ladder(2, told), LADDER_TEXT, 1, 17)
        self.wrong(("ladder line", 0), lambda told: read_ladder(0, told), LADDER_TEXT, 1, 11)

    def test_every_change(self):
        for text, things in ((LADDER_TEXT, 3), ("drop 12\nsplit -10 21 4/15 7", 2), ("split 1/3 2/3\nbase", 0)):
            self.changed(("ladder line", things), lambda told: read_ladder(things, told), text, "0 -/1b\n", NumberError)

    def test_digits(self):
        """Integers with 2001 digits, which may be beyond the bounds of ratios."""
        long = str(LONG)
        lines = [("drop", LONG), ("split", (-LONG, MOST, 0), R(1), R(MOST, 3)), ("drop", -LONG)]
        text = ladder_text(lines)
        self.exact(text, f"drop {long}\nsplit -{long} {MOST} 0 1 {MOST}/3\ndrop -{long}")
        self.exact(read_ladder(3, text), lines)
        for far in (LONG + 1, -LONG - 1, 10 ** 4000):
            self.refused(NumberError, (far,), ladder_text, lines + [("drop", far), ("drop", 10 ** 2500)])
            self.refused(NumberError, (far,), ladder_text, [("split", [1, far, -10 ** 2500], R(1), R(1))])
        read = lambda told: read_ladder(1, told)
        self.wrong(("ladder line", 1), read, "drop " + long + "9", 1, 2007)
        self.wrong(("ladder line", 1), read, "split -" + long + "0 1 1", 1, 2009)
        self.wrong(("ladder line", 1), read, "split 1 1/" + long + "1 1", 1, 2012)
        self.refused(NumberError, (LONG,), read_ladder, 1, "drop 1\nsplit 1 " + long + " 1/" + long)
        self.refused(NumberError, (LONG,), read_ladder, 1, "split 1 1 1/" + long + "\nsplit 1 -" + long + " 1")
        self.refused(NumberError, (-LONG,), read_ladder, 1, "split 1 1 -" + long)

    def test_sizes(self):
        lines = [("base",)] * 1000
        self.exact(ladder_text(lines), "\n".join(["base"] * 1000))
        self.exact(read_ladder(3, ladder_text(lines)), lines)
        self.refused(SizeError, (1001,), ladder_text, [("drop", 10 ** 2500)] * 1001)
        self.refused(SizeError, (1001,), read_ladder, 1, "\n".join(["split 1 1 " + "9" * 2001] + ["base"] * 1000))
        self.refused(TextError, (1002, 1), read_ladder, 3, "base\n" * 1001)
        self.refused(TextError, (1001, 2), read_ladder, 3, "base\n" * 1000 + "b")
        for things in (3, 11, -1):
            self.too_long(lambda text: read_ladder(things, text))
        for text in ("x", "", "base", "\n"):
            self.refused(NumberError, (11,), read_ladder, 11, text)
            self.refused(NumberError, (-1,), read_ladder, -1, text)

    def test_long_texts_are_written(self):
        """Written texts may be longer than those that are read."""
        many = [("split", (10 ** 2000,) * 10, R(1, 3), R(1, 3))] * 3
        text = ladder_text(many)
        self.assertGreater(len(text), 60000)
        self.refused(SizeError, (len(text),), read_ladder, 10, text)


class PapersOfAnswersTest(Case):
    def test_of_settlements(self):
        random = Random(116)
        for family in (Groups([0, 0, 1, 1, 1], [1, 2]), Choice(6, 3)):
            book = some_book(random, family, borne(random, family))
            answer = settle(book, [random.randint(-9, 9) for _ in range(family.things)])
            for mixture in (answer.mixture, answer.near):
                self.assertEqual(read_mixture(family.things, mixture_text(mixture)), mixture)
            self.exact(tuple(read_prices(prices_text(answer.prices))), answer.prices)

    def test_great_denominators(self):
        random = Random(117)
        shares = ratios_for(fine_shares(random, Choice(10, 5)))
        self.assertTrue(all(share.__class__ is Ratio for share in shares))
        book = Book(Choice(10, 5), [])
        walker = Walker(book, shares)
        walker.run(20)
        lines = walker.ladder()
        self.exact(read_ladder(10, ladder_text(lines)), lines)
