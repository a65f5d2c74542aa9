"""Points 2 to 5, 56, 57 and 59 and the section nodearer/texts/sheets.py."""

from random import Random

from nodearer.errors import NumberError, SizeError, TextError, ThingError, WishError
from nodearer.families.counts import Choice, Groups
from nodearer.families.turned import Mirror
from nodearer.texts.kinds import family_text
from nodearer.texts.sheets import book_text, read_book
from nodearer.wishes.books import Book
from nodearer.wishes.wishes import Wish
from tests.grammar import Course, changes
from tests.helpers import Case
from tests.plans import FAMILIES, KINDS, borne, some_book
from tests.settled import some_costs

PAIRS = Book(Groups([0, 0, 1], [1, 1]), [Wish([1, 0, 20], most=-3), Wish([0, 5, 0], most=1000)])
TEXT = "family (groups (0 0 1) (1 1))\ncosts -1000000 0 7\nwish 1 0 20 most -3\nwish 0 5 0 most 1000"
BOTH = Book(Mirror(Choice(2, 1)), [Wish([1, 0], most=1, least=-2), Wish([0, 1], least=0)])
BOTH_TEXT = "family (mirror (choice 2 1))\ncosts 3 -4\nwish 1 0 most 1 least -2\nwish 0 1 least 0"
HEAD = "family (choice 2 1)\ncosts 0 0\n"
KIND_OF_LINE = ("family line", "costs line")


def kind_of(at):
    return (KIND_OF_LINE[at],) if at < 2 else ("wish line",)


def place_of_fault(text):
    """The line and the column of point 59, or None."""
    lines = text.split("\n")
    for at, line in enumerate(lines):
        column = Course(kind_of(at), line).wrong()
        if column is not None:
            return at + 1, column
    return (2, 1) if len(lines) < 2 else None


class WriteTest(Case):
    def test_told(self):
        for book, costs, text in ((PAIRS, [-10 ** 6, 0, 7], TEXT), (BOTH, (3, -4), BOTH_TEXT),
                                  (Book(Choice(0, 0), []), [], "family (choice 0 0)\ncosts"),
                                  (Book(Choice(0, 0), [Wish([], most=-1, least=-1)]), (),
                                   "family (choice 0 0)\ncosts\nwish most -1 least -1")):
            self.exact(self.asked(book_text, book, costs), text)
            told = self.asked(read_book, text)
            self.exact(told[1], list(costs))
            self.assertEqual(told, (book, list(costs)))
            self.assertEqual((told[0].deep, told[0].kind), (book.deep, book.kind))

    def test_inverse(self):
        random = Random(112)
        for kind in KINDS:
            for family in FAMILIES:
                book, costs = some_book(random, family, borne(random, family), kind), some_costs(random, family.things)
                text = book_text(book, costs)
                lines = text.split("\n")
                self.assertEqual(lines[0], "family " + family_text(family))
                self.assertEqual(lines[1], " ".join(["costs"] + [str(cost) for cost in costs]))
                self.exact(lines[2:], [str(wish) for wish in book.wishes])
                self.assertIsNone(place_of_fault(text))
                told, prices = read_book(text)
                self.assertEqual((told, prices), (book, costs))
                self.exact([(wish.weights, wish.most, wish.least) for wish in told.wishes],
                           [(wish.weights, wish.most, wish.least) for wish in book.wishes])
                self.exact(book_text(told, prices), text)

    def test_costs_are_looked_at(self):
        self.refused(SizeError, (2,), book_text, PAIRS, [10 ** 7] * 2)
        self.refused(SizeError, (4,), book_text, PAIRS, (0,) * 4)
        self.refused(NumberError, (10 ** 6 + 1,), book_text, PAIRS, [0, 10 ** 6 + 1, -10 ** 7])


class ReadTest(Case):
    def wrong(self, text, line, column):
        self.assertEqual(place_of_fault(text), (line, column), text)
        self.refused(TextError, (line, column), read_book, text)

    def test_lines(self):
        """Lines that are missing, too many, doubled or in another order."""
        family, costs, wish = "family (choice 2 1)", "costs 0 0", "wish 1 1 most 1"
        self.wrong("", 1, 1)
        self.wrong("\n", 1, 1)
        self.wrong(family, 2, 1)
        self.wrong(family + "\n", 2, 1)
        self.wrong(HEAD, 3, 1)
        self.wrong(HEAD + wish + "\n", 4, 1)
        self.wrong(HEAD + "\n" + wish, 3, 1)
        self.wrong("\n".join([family, family, costs]), 2, 1)
        self.wrong("\n".join([family, costs, costs]), 3, 1)
        self.wrong("\n".join([family, wish, costs]), 2, 1)
        self.wrong("\n".join([costs, family]), 1, 1)
        self.wrong("\n".join([family, costs, wish, family]), 4, 1)
        self.wrong("\n".join([family, costs, wish, wish, costs]), 5, 1)
        self.wrong("(choice 2 1)\ncosts 0 0", 1, 1)
        self.wrong(family + " \n" + costs, 1, 20)
        self.wrong(family[:-1] + "\n" + costs, 1, 19)
        self.wrong("family(choice 2 1)\n" + costs, 1, 7)
        self.wrong("family  (choice 2 1)\n" + costs, 1, 8)
        # The first line that is wrong counts, and the form comes before all objects.
        self.wrong("family (choice 2 9)\ncosts 1 2 3\nwish 99 most 5 least\nx", 3, 21)

    def test_columns(self):
        for line, column in (
                ("cost", 5), ("costs ", 7), ("costs  0 0", 7), ("costs 0  0", 9), ("costs 0 0 ", 11), ("costs0", 6),
                ("costs 0,0", 8), ("costs -", 8), ("costs -0", 8), ("costs 00", 8), ("costs 01", 8),
                ("costs 12345678", 14), ("costs -12345678", 15), ("costs 1/2", 8), ("costs (1)", 7), ("Costs", 1)):
            self.wrong("family (choice 2 1)\n" + line, 2, column)
        for line, column in (
                ("w", 2), ("wis", 4), ("wish ", 6), ("wish  1", 6), ("wish 1 ", 8), ("wish 1 m", 9), ("wish 1 mo", 10),
                ("wish 1 most", 12), ("wish 1 most ", 13), ("wish 1 most x", 13), ("wish 1 most 3 ", 15),
                ("wish 1 most 3 4", 15), ("wish 1 most 3 most 4", 15), ("wish 1 most 3 m", 15), ("wish 1 most 3 l", 16),
                ("wish 1 most 3 least", 20), ("wish 1 most 3  least 4", 15), ("wish 1 least 3 most 4", 15),
                ("wish 1 least 3 ", 15), ("wish 1 least 3 4", 15), ("wish 1 lest 3", 10), ("wish 1 mest 3", 9),
                ("wish 1most 3", 7), ("wish most3", 10), ("wish most 3 least -", 20), ("wish most -0", 12),
                ("wish most 12345678", 18), ("wish x", 6), ("wishes", 5), ("wish 1 most 3 least 2 ", 22),
                ("wish 1 most 3 1", 15), ("wish (1) most 3", 6), ("wish 1\tmost", 7), ("wish 1 Most 3", 8)):
            self.wrong(HEAD + line, 3, column)
            self.wrong(HEAD + "wish 1 1 most 1\n" + line, 4, column)

    def test_every_change(self):
        for text in (BOTH_TEXT, "family (choice 2 1)\ncosts 0 0\nwish 1 1\nwish most 2"):
            for other, _ in changes(text, "0 -m\n1"):
                place = place_of_fault(other)
                if place is None:
                    self.made_or_refused(other)
                else:
                    self.refused(TextError, place, read_book, other)

    def made_or_refused(self, text):
        try:
            book, costs = read_book(text)
        except (SizeError, NumberError, ThingError, WishError):
            return
        self.assertEqual(read_book(book_text(book, costs)), (book, costs))

    def test_lengths(self):
        many = HEAD + "\n".join(["wish 1 1 most 1"] * 1247)
        self.assertLessEqual(len(many), 20000)
        self.refused(SizeError, (1247,), read_book, many)
        full = HEAD + "wish" + " 1" * 9983
        self.assertEqual(len(full), 20000)
        self.refused(SizeError, (9983,), read_book, full)
        self.refused(TextError, (3, 19970), read_book, full[:-1] + "x")
        for text in (full + "x", "x" * 20001, "\n" * 30000):
            self.refused(SizeError, (len(text),), read_book, text)

    def test_classes_refuse(self):
        """The family, then the costs, then the wishes, then the book."""
        bad_wish = "wish 21 0 0 most 3 least 4"
        for rest in ("", "\n" + bad_wish):
            self.refused(NumberError, (3,), read_book, "family (choice 2 3)\ncosts 1 2 3" + rest)
            self.refused(NumberError, (5,), read_book, "family (mirror (choice 2 5))\ncosts 1 2 3" + rest)
            self.refused(SizeError, (3,), read_book, "family (choice 2 1)\ncosts 9999999 0 0" + rest)
            self.refused(SizeError, (0,), read_book, "family (choice 2 1)\ncosts" + rest)
            self.refused(NumberError, (9999999,), read_book, "family (choice 2 1)\ncosts 0 9999999" + rest)
        self.refused(NumberError, (21,), read_book, HEAD + bad_wish)
        self.refused(NumberError, (-1,), read_book, HEAD + "wish -1 1 most 9999")
        self.refused(NumberError, (1001,), read_book, HEAD + "wish 1 1 most 1001 least 1002")
        self.refused(NumberError, (-1001,), read_book, HEAD + "wish 1 1 least -1001")
        self.refused(WishError, (None,), read_book, HEAD + "wish 1 1")
        self.refused(WishError, (None,), read_book, HEAD + "wish")
        self.refused(WishError, (None,), read_book, HEAD + "wish 1 1 most 0 least 1")
        self.refused(WishError, (None,), read_book, HEAD + "wish 1 2 least 1")
        self.refused(SizeError, (11,), read_book, HEAD + "wish 1 most 1\nwish" + " 1" * 11 + " most 1")
        self.refused(SizeError, (1,), read_book, HEAD + "wish 1 0 most 1\nwish 1 most 1\nwish 1 1 1 most 1")
        self.refused(WishError, (1,), read_book, HEAD + "wish 1 2 most 1\nwish 1 1 most 1 least 1")
        self.refused(WishError, (None,), read_book, HEAD + "wish 1 most 1\nwish 1 2 least 1")
        self.refused(SizeError, (6,), read_book, HEAD + "\n".join(["wish 1 1 1 most 1"] * 6))
        self.refused(WishError, (None,), read_book, HEAD + "\n".join(["wish 1 1 1 most 1"] * 6 + ["wish 1 1 1"]))
        self.assertEqual(len(read_book(HEAD + "\n".join(["wish 1 1 most 1"] * 5))[0].wishes), 5)

    def test_lists_are_new(self):
        book, costs = read_book(TEXT)
        costs.append(3)
        self.exact(read_book(TEXT)[1], [-10 ** 6, 0, 7])
        self.assertEqual(book, PAIRS)
