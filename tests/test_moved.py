"""Points 3 to 5, 9 and 33 and the section nodearer/wishes/moved.py."""

from random import Random

from nodearer.errors import LotError, NumberError, SizeError, ThingError, WishError
from nodearer.families.built import Both
from nodearer.families.counts import Choice
from nodearer.families.turned import Minor, Mirror
from nodearer.wishes.books import Book
from nodearer.wishes.moved import minor_book, mirror_book, side_book
from nodearer.wishes.wishes import Wish
from tests.plans import FAMILIES, SQUARE, PlanCase, borne, keepers_by, near_by, some_book
from tests.test_built import mirrors


def told(wish):
    return (wish.weights, wish.most, wish.least)


def lower(number, count):
    return None if number is None else number - count


class MinorTest(PlanCase):
    def test_definition(self):
        random = Random(49)
        done = 0
        for family in FAMILIES:
            bases = [set(base) for base in family.bases()]
            for _ in range(12):
                book = some_book(random, family, borne(random, family))
                marks = [random.choice("tlrrr") for _ in range(family.things)]
                taken = tuple(x for x, mark in enumerate(marks) if mark == "t")
                left = tuple(x for x, mark in enumerate(marks) if mark == "l")
                args = (book, list(taken)[::-1] * 2, list(left)[::-1] * 2)
                if not family.free(taken):
                    self.refused(LotError, (taken,), minor_book, *args)
                elif not any(set(taken) <= base and not base & set(left) for base in bases):
                    self.refused(LotError, (left,), minor_book, *args)
                else:
                    self.check(book, self.asked(minor_book, *args), taken, left)
                    done += 1
        self.assertGreater(done, 80)

    def check(self, book, minor, taken, left):
        self.assertIs(minor.__class__, Book)
        family = minor.family
        self.assertIs(family.__class__, Minor)
        self.assertIs(family.family, book.family)
        self.exact((family.taken, family.left), (taken, left))
        rest = [x for x in range(book.family.things) if x not in taken + left]
        wanted = []
        for wish in book.wishes:
            count = sum(wish.weights[x] for x in taken)
            wanted.append((tuple(wish.weights[x] for x in rest), lower(wish.most, count), lower(wish.least, count)))
        self.exact([told(wish) for wish in minor.wishes], wanted)
        near = near_by(book)
        for base in near_by(minor):
            self.assertIn(family.lifted(base), near)
        keep = [base for base in keepers_by(book) if set(taken) <= set(base) and not set(left) & set(base)]
        self.assertEqual([family.lifted(base) for base in keepers_by(minor)], keep)

    def test_told(self):
        book = Book(Choice(4, 2), [Wish([3, 0, 2, 1], most=4), Wish([0, 1, 1, 0], most=1)])
        minor = minor_book(book, [0], [2])
        self.exact([told(wish) for wish in minor.wishes], [((0, 1), 1, None), ((1, 0), 1, None)])
        self.exact((minor.kind, minor.family == Choice(2, 1)), ("most", True))
        whole = minor_book(book, (), ())
        self.assertTrue(whole == book)
        self.exact(whole.family.nodes, 2)
        none = minor_book(Book(Choice(2, 1), [Wish([1, 0], most=1, least=1)]), [0], [1])
        self.exact((none.family.things, told(none.wishes[0])), (0, ((), 0, 0)))
        self.exact(minor_book(Book(Choice(0, 0), []), [], []).family.things, 0)

    def test_refusals(self):
        book = Book(SQUARE, [Wish([1] * 5, most=-999)])
        self.refused(ThingError, (5,), minor_book, book, [0, 5], [7])
        self.refused(ThingError, (-1,), minor_book, book, [0], [-1])
        self.refused(SizeError, (61,), minor_book, book, [0] * 61, [7])
        self.refused(SizeError, (61,), minor_book, book, [0] * 60, [0] * 61)
        self.refused(ThingError, (1,), minor_book, book, [4, 3, 1, 0, 2], [4, 1])
        self.refused(LotError, ((0, 1, 4),), minor_book, book, [4, 1, 0], [2, 3])
        self.refused(LotError, ((2, 3),), minor_book, book, [4], [3, 2, 2])
        self.refused(LotError, ((0, 1, 2),), minor_book, book, (), [0, 1, 2])
        deep = Book(mirrors(Choice(3, 1), 40), [Wish([1] * 3, most=-1000)])
        self.refused(LotError, ((0, 1, 2),), minor_book, deep, [2, 1, 0], [])
        self.refused(LotError, ((0, 1),), minor_book, deep, [], [1, 0])
        self.refused(NumberError, (41,), minor_book, deep, [0], [])
        self.exact(minor_book(Book(mirrors(Choice(3, 1), 39), []), [0], []).family.nodes, 40)

    def test_new_numbers(self):
        def book(*wishes):
            return Book(Choice(3, 2), list(wishes))

        first, second = Wish([1, 1, 0], most=-999, least=-1000), Wish([1, 1, 1], least=-999)
        self.exact([told(wish) for wish in minor_book(book(second), [0], []).wishes], [((1, 1), None, -1000)])
        self.refused(NumberError, (-1001,), minor_book, book(second, first), [0, 1], [])
        self.refused(NumberError, (-1001,), minor_book, book(first), [0], [])
        self.refused(NumberError, (-1001,), minor_book, book(Wish([1, 1, 1], most=-999, least=-999)), [1, 0], [])
        self.refused(NumberError, (-1040,), minor_book, book(Wish([20, 20, 0], most=-1000), Wish([7] * 3, most=-1000)),
                     [0, 1], [])
        self.refused(NumberError, (-1002,), minor_book, book(Wish([1, 1, 0], most=1, least=-1000), second), [0, 1], [])


class MirrorTest(PlanCase):
    def test_definition(self):
        random = Random(50)
        for family in FAMILIES:
            for kind in ("most", "least", "both"):
                book = some_book(random, family, borne(random, family), kind)
                mirror = self.asked(mirror_book, book)
                self.assertIs(mirror.__class__, Book)
                self.assertIs(mirror.family.__class__, Mirror)
                self.assertIs(mirror.family.family, family)
                wanted = []
                for wish in book.wishes:
                    count = sum(wish.weights)
                    most = None if wish.least is None else count - wish.least
                    wanted.append((wish.weights, most, None if wish.most is None else count - wish.most))
                self.exact([told(wish) for wish in mirror.wishes], wanted)
                near = [tuple(x for x in range(family.things) if x not in base) for base in near_by(book)]
                self.assertEqual(sorted(near), near_by(mirror))
                if wanted:
                    flipped = {"most": "least", "least": "most", "both": "both"}
                    self.exact(mirror.kind, flipped[book.kind])

    def test_told(self):
        wishes = [Wish([1, 1, 0], most=1, least=0), Wish([1, 1, 1], most=-5), Wish([0, 0, 0], least=9)]
        book = Book(Choice(3, 1), wishes)
        self.exact([told(wish) for wish in mirror_book(book).wishes],
                   [((1, 1, 0), 2, 1), ((1, 1, 1), None, 8), ((0, 0, 0), -9, None)])
        self.exact(mirror_book(Book(Choice(0, 0), [])).wishes, ())

    def test_refusals(self):
        heavy, far = Wish([2, 0], most=1000), Wish([1, 1], most=-1000)
        deep = mirrors(Choice(2, 1), 40)
        self.refused(WishError, (1,), mirror_book, Book(deep, [far, heavy, heavy]))
        self.refused(NumberError, (41,), mirror_book, Book(deep, [far]))
        self.exact(mirror_book(Book(mirrors(Choice(2, 1), 39), [])).family.nodes, 40)
        self.refused(NumberError, (1002,), mirror_book, Book(Choice(2, 1), [Wish([1, 1], most=9), far]))
        self.refused(NumberError, (1001,), mirror_book, Book(Choice(2, 1), [Wish([0, 1], least=-1000), far]))
        # The new greatest number, 1002, is looked at before the new least number, 1001.
        self.refused(NumberError, (1002,), mirror_book, Book(Choice(2, 1), [Wish([1, 1], most=-999, least=-1000)]))
        for wish, wanted in ((Wish([0, 0], most=1000, least=-1000), ((0, 0), 1000, -1000)),
                             (Wish([1, 1], least=-998), ((1, 1), 1000, None))):
            self.exact(told(mirror_book(Book(Choice(2, 1), [wish])).wishes[0]), wanted)


class SideTest(PlanCase):
    def test_definition(self):
        random = Random(51)
        for first in FAMILIES:
            second = random.choice([family for family in FAMILIES if family.things + first.things <= 10])
            kind = random.choice(["most", "least", "both", "weighted"])
            one = some_book(random, first, borne(random, first), kind)
            two = some_book(random, second, borne(random, second), kind)
            if len(one.wishes) + len(two.wishes) > 5:
                self.refused(SizeError, (len(one.wishes) + len(two.wishes),), side_book, one, two)
                two = Book(second, two.wishes[:5 - len(one.wishes)])
            both = self.asked(side_book, one, two)
            self.assertIs(both.__class__, Book)
            self.assertIs(both.family.__class__, Both)
            self.assertIs(both.family.first, first)
            self.assertIs(both.family.second, second)
            zeros = ((0,) * first.things, (0,) * second.things)
            wanted = [(wish.weights + zeros[1], wish.most, wish.least) for wish in one.wishes]
            wanted += [(zeros[0] + wish.weights, wish.most, wish.least) for wish in two.wishes]
            self.exact([told(wish) for wish in both.wishes], wanted)

    def test_refusals(self):
        wish, heavy = Wish([1, 0], least=1), Wish([2, 0], most=1)
        wide = Book(mirrors(Choice(9, 1), 30), [Wish([0] * 9, most=1)] * 5)
        self.refused(SizeError, (11,), side_book, wide, Book(mirrors(Choice(2, 1), 30), [wish]))
        self.refused(SizeError, (20,), side_book, *[Book(Choice(10, 5), [])] * 2)
        deep = Book(mirrors(Choice(2, 1), 20), [wish] * 3)
        self.refused(SizeError, (6,), side_book, deep, deep)
        self.refused(NumberError, (41,), side_book, deep, Book(deep.family, [heavy]))
        shallow = Book(mirrors(Choice(2, 1), 19), [heavy])
        self.refused(WishError, (0,), side_book, deep, shallow)
        self.refused(WishError, (1,), side_book, shallow, deep)
        self.exact(side_book(deep, Book(shallow.family, [wish] * 2)).family.nodes, 40)
        self.exact(len(side_book(Book(Choice(5, 1), []), Book(Choice(5, 2), [])).wishes), 0)

    def test_weighted_beside_plain(self):
        both = side_book(Book(Choice(1, 1), [Wish([2], most=2)]), Book(Choice(2, 1), [Wish([1, 1], most=1)]))
        self.exact((both.kind, both.deep, both.slack(0), both.slack(1)), ("weighted", 1, 2, 1))
