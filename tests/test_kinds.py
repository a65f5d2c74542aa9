"""Points 2 to 5, 56 and 59 and the section nodearer/texts/kinds.py."""

from random import Random

from nodearer.errors import (CrossError, ExchangeError, LotError, NumberError, SizeError, TextError, ThingError)
from nodearer.families.built import Both, Short
from nodearer.families.counts import Choice, Groups
from nodearer.families.rooms import Rooms
from nodearer.families.seats import Seats
from nodearer.families.told import Told
from nodearer.families.turned import Minor, Mirror
from nodearer.families.vectors import Vectors
from nodearer.families.webs import Web
from nodearer.texts.kinds import family_text, read_family
from tests.grammar import Course, changes
from tests.helpers import Case
from tests.plans import FAMILIES, SQUARE

EXAMPLE = Minor(Both(Choice(3, 1), Web(2, [(0, 1), (1, 0)])), [0], [4])
TEXTS = [
    (Choice(3, 1), "(choice 3 1)"), (Choice(0, 0), "(choice 0 0)"), (Choice(10, 10), "(choice 10 10)"),
    (Groups([0, 1, 0], [1, 0]), "(groups (0 1 0) (1 0))"), (Groups([], []), "(groups () ())"),
    (Rooms(3, [([2, 0, 2], 1), ([], 0)]), "(rooms 3 (((0 2) 1) (() 0)))"), (Rooms(2, []), "(rooms 2 ())"),
    (Web(3, [[0, 1], (2, 2)]), "(web 3 ((0 1) (2 2)))"), (Web(0, []), "(web 0 ())"),
    (Vectors([[1, -2], [0, 1000]], 7), "(vectors ((1 -2) (0 1000)) 7)"), (Vectors([[], []]), "(vectors (() ()) 0)"),
    (Vectors([]), "(vectors () 0)"), (Seats(2, [[1, 0, 1], [], [1]]), "(seats 2 ((0 1) () (1)))"),
    (Told(3, [[2, 0], [1, 0], [0, 2]]), "(told 3 ((0 1) (0 2)))"), (Told(2, [[]]), "(told 2 (()))"),
    (Both(Choice(1, 1), Mirror(Choice(2, 0))), "(both (choice 1 1) (mirror (choice 2 0)))"),
    (Short(Choice(4, 3), 2), "(short (choice 4 3) 2)"),
    (Mirror(Mirror(Choice(1, 0))), "(mirror (mirror (choice 1 0)))"),
    (Minor(Choice(3, 2), [2], []), "(minor (choice 3 2) (2) ())"),
    (EXAMPLE, "(minor (both (choice 3 1) (web 2 ((0 1) (1 0)))) (0) (4))")]
FIELDS = ("take", "groups", "takes", "rooms", "places", "ties", "rows", "prime", "seats", "fits", "lots", "first",
          "second", "family", "taken", "left", "rest", "things", "full", "nodes")
LONG = "(told 4 ((0 1) (2 3) (0 3) (1 2) (0 2)))"


def alike(first, second):
    """Whether two families are built in the same way, with the same fields."""
    if first.__class__ is not second.__class__:
        return False
    for name in FIELDS:
        one, two = getattr(first, name, None), getattr(second, name, None)
        if name in ("first", "second", "family") and one is not None:
            if not alike(one, two):
                return False
        elif one != two or one.__class__ is not two.__class__:
            return False
    return True


class WriteTest(Case):
    def test_told(self):
        for family, text in TEXTS:
            self.exact(self.asked(family_text, family), text)
            told = self.asked(read_family, text)
            self.assertTrue(alike(told, family), text)
            self.assertEqual(told, family)

    def test_inverse(self):
        random = Random(111)
        for _ in range(60):
            family = random.choice(FAMILIES)
            for _ in range(random.randint(0, 6)):
                family = self.built(random, family)
            text = family_text(family)
            self.assertIsNone(Course(("family",), text).wrong())
            self.assertTrue(alike(read_family(text), family))
            self.exact(family_text(read_family(text)), text)

    def built(self, random, family):
        """A family built of another one in one of the four ways."""
        word = random.choice(["both", "short", "mirror", "minor"])
        if word == "both":
            other = random.choice([some for some in FAMILIES if some.things + family.things <= 10] or [Choice(0, 0)])
            if other.nodes + family.nodes < 40 and other.things + family.things <= 10:
                return Both(*random.sample([family, other], 2))
        if word == "minor" and family.things:
            taken, left = random.sample(range(family.things), 1), [random.randrange(family.things)]
            return Minor(family, taken, [thing for thing in left if thing not in taken])
        return Short(family, random.randint(0, family.full)) if word == "short" else Mirror(family)

    def test_all_kinds(self):
        for family in FAMILIES:
            self.assertTrue(alike(read_family(family_text(family)), family))

    def test_greatest_nesting(self):
        """40 nodes are the most; a text may have more brackets."""
        family = Choice(1, 1)
        for _ in range(39):
            family = Mirror(family)
        text = family_text(family)
        self.exact(text, "(mirror " * 39 + "(choice 1 1)" + ")" * 39)
        self.assertTrue(alike(read_family(text), family))
        for many in (40, 59):
            self.refused(NumberError, (41,), read_family, "(mirror " * many + "(choice 1 1)" + ")" * many)
        for text in ("(mirror " * 60 + "(choice 1 1)" + ")" * 60, "(mirror " * 60 + "(", "(mirror " * 61):
            self.refused(TextError, (1, 481), read_family, text)
        self.refused(TextError, (1, 481), read_family, "(mirror " * 60)
        self.refused(TextError, (1, 481), read_family, "(mirror " * 60 + "x")


    def test_brackets_that_are_closed_again(self):
        """Only the brackets that are open at the same time count."""
        ahead = "(both (choice 1 1) "
        self.refused(TextError, (1, 59 * 19 + 7), read_family, ahead * 60 + "(choice 1 1)" + ")" * 60)
        deep = ahead * 59 + "(both (choice 1 1) (choice 1 1))" + ")" * 59
        self.refused(TextError, (1, 59 * 19 + 7), read_family, deep)
        # The inner families are made first, so the one with 41 nodes is refused, or the one with 11 things.
        self.refused(SizeError, (11,), read_family, ahead * 59 + "(choice 1 1)" + ")" * 59)
        ahead = "(both (choice 0 0) "
        self.refused(NumberError, (41,), read_family, ahead * 59 + "(choice 0 0)" + ")" * 59)
        rows = "(vectors (" + " ".join(["()"] * 900) + ") 0)"
        self.refused(SizeError, (900,), read_family, rows)


class ReadTest(Case):
    def wrong(self, text, line, column):
        self.refused(TextError, (line, column), read_family, text)

    def test_columns(self):
        for text, column in (
                ("", 1), (" ", 1), ("choice 3 1", 1), ("(", 2), ("()", 2), ("( choice 3 1)", 2), ("(cho", 5),
                ("(choise 3 1)", 6), ("(choice", 8), ("(choice)", 8), ("(choices 3 1)", 8), ("(choice ", 9),
                ("(choice  3 1)", 9), ("(choice -", 10), ("(choice -0 1)", 10), ("(choice 00 1)", 10),
                ("(choice 01 1)", 10), ("(choice 3)", 10), ("(choice 3 )", 11), ("(choice 3  1)", 11),
                ("(choice 3 1", 12), ("(choice 3 1 )", 12), ("(choice 3 1 2)", 12), ("(choice 3 1) ", 13),
                ("(choice 3 1))", 13), (" (choice 3 1)", 1), ("(Choice 3 1)", 2), ("(choice +3 1)", 9),
                ("(choice 12345678 1)", 16), ("(choice -12345678 1)", 17), ("(choice 3,1)", 10), ("(s", 3),
                ("(sh", 4), ("(se", 4), ("(sx", 3), ("(m", 3), ("(mi", 4), ("(mix", 4), ("(min", 5), ("(mir", 5),
                ("(groups () ()", 14), ("(groups ()())", 11), ("(groups (1 ) ())", 12), ("(groups ( 1) ())", 10),
                ("(groups (1) () ())", 15), ("(web 2 (0 1))", 9), ("(web 2 ((0 1)(1 0)))", 14), ("(web 2 )", 8),
                ("(web 2 ((0 1) ))", 15), ("(web 2 ( (0 1)))", 9), ("(rooms 2 ((0) 1))", 12), ("(rooms 2 (((0))))", 15),
                ("(rooms 2 (((0) 1 2)))", 17), ("(rooms 2 ((() 1)(() 1)))", 17), ("(both (choice 1 1))", 19),
                ("(mirror (choice 1 1) 3)", 21), ("(mirror mirror)", 9), ("(short (choice 1 1))", 20),
                ("(minor (choice 1 1) (0))", 24), ("(choice 3 1/2)", 12), ("(choice 3 (1))", 11)):
            self.wrong(text, 1, column)

    def test_second_lines(self):
        for text in ("(choice 3 1)\n", "(choice 3 1)\n(choice 3 1)", "(choice 3 1)\n\n\n", "(choice 1 2)\nx"):
            self.wrong(text, 2, 1)
        self.wrong("\n(choice 3 1)", 1, 1)
        self.wrong("(choice 3\n1)", 1, 10)
        self.wrong("(choice 3 \n 1)", 1, 11)

    def test_every_change(self):
        """One character inserted, replaced or removed, or the text cut, at every place of a text."""
        for text in [text for _, text in TEXTS[3:]] + [LONG]:
            course = Course(("family",), text)
            self.assertIsNone(course.wrong())
            for other, same in changes(text, "0 -(1)m"):
                column = course.wrong(other, same)
                if column is None:
                    self.made_or_refused(other)
                else:
                    self.refused(TextError, (1, column), read_family, other)

    def made_or_refused(self, text):
        """A text of the right form gives a family, or an error of a class."""
        try:
            family = read_family(text)
        except (SizeError, NumberError, ThingError, LotError, CrossError, ExchangeError):
            return
        self.assertEqual(read_family(family_text(family)), family)

    def test_lengths(self):
        great = "(told 1 (" + " ".join(["()"] * 6663) + "))"
        self.assertEqual(len(great), 19999)
        self.refused(SizeError, (6663,), read_family, great)
        self.refused(TextError, (1, 20000), read_family, great + "x")
        self.refused(TextError, (1, 20001), read_family, "(told 1 (" + " ".join(["()"] * 6664))
        for text in (great + "xx", "x" * 20001, "(choice 3 1)" + "\n" * 20000):
            self.refused(SizeError, (len(text),), read_family, text)

    def test_classes_refuse(self):
        for text, error, fields in (
                ("(choice 3 4)", NumberError, (4,)), ("(choice -3 1)", NumberError, (-3,)),
                ("(choice 9999999 -9999999)", NumberError, (9999999,)), ("(groups (0 1) (1))", NumberError, (1,)),
                ("(rooms 3 (((0 1) 1) ((1 2) 1)))", CrossError, (0, 1)), ("(rooms 3 (((0 3) 1)))", ThingError, (3,)),
                ("(web 2 ((0 1 1)))", SizeError, (3,)), ("(web 2 ((0)))", SizeError, (1,)),
                ("(web 2 (()))", SizeError, (0,)),
                ("(web 2 ((0 2)))", NumberError, (2,)), ("(vectors ((1) (1 2)) 0)", SizeError, (2,)),
                ("(vectors ((1001)) 4)", NumberError, (1001,)), ("(vectors () 4)", NumberError, (4,)),
                ("(seats 1 ((1)))", NumberError, (1,)), ("(told 2 ((0) (0 1)))", LotError, ((0, 1),)),
                ("(told 2 ())", SizeError, (0,)), ("(told 4 ((0 1) (2 3)))", ExchangeError, ((0, 1), (2, 3), 0)),
                ("(short (choice 3 1) 2)", NumberError, (2,)), ("(minor (choice 3 1) (0) (1 0))", ThingError, (0,)),
                ("(both (choice 6 1) (choice 5 1))", SizeError, (11,))):
            self.refused(error, fields, read_family, text)

    def test_order_of_objects(self):
        """Objects are made in the order of the text, inner families first, after the form of all."""
        self.refused(NumberError, (4,), read_family, "(both (choice 3 4) (choice 3 5))")
        self.refused(NumberError, (5,), read_family, "(both (choice 3 3) (choice 3 5))")
        self.refused(NumberError, (4,), read_family, "(short (mirror (choice 3 4)) 99)")
        self.refused(NumberError, (4,), read_family, "(minor (short (choice 3 4) 7) (9) (9))")
        self.refused(NumberError, (7,), read_family, "(minor (short (choice 3 3) 7) (9) (9))")
        self.refused(ThingError, (9,), read_family, "(minor (short (choice 3 3) 3) (0 9) (8))")
        self.refused(TextError, (1, 33), read_family, "(both (choice 3 4) (choice 3 5)))")
        self.refused(TextError, (2, 1), read_family, "(choice 3 4)\n")
        self.assertEqual(read_family("(web 4 ((0 1) (1 2) (2 3) (3 0) (0 2)))"), SQUARE)
