"""Points 3, 31 and 32 and the section nodearer/wishes/plain.py."""

from random import Random

from nodearer.families.counts import Choice
from nodearer.families.webs import Web
from nodearer.wishes.books import Book
from nodearer.wishes.plain import keepers, near_bases
from nodearer.wishes.wishes import Wish
from tests.plans import FAMILIES, KINDS, PlanCase, borne, keepers_by, near_by, some_book


class PlainTest(PlanCase):
    def test_definition(self):
        random = Random(52)
        seen = set()
        for family in FAMILIES:
            for kind in KINDS:
                book = some_book(random, family, borne(random, family), kind)
                keep, near = self.asked(keepers, book), self.asked(near_bases, book)
                self.exact(keep, keepers_by(book))
                self.exact(near, near_by(book))
                self.assertLessEqual(set(keep), set(near))
                seen.add((len(keep) == len(near), len(near) == len(list(family.bases()))))
        self.assertEqual(len(seen), 4)

    def test_told(self):
        star = Web(4, [(0, 1), (0, 2), (0, 3), (1, 2)])
        book = Book(star, [Wish.of(4, [0, 1, 2], most=1)])
        self.exact((keepers(book), near_bases(book)), ([], []))
        book = Book(star, [Wish.of(4, [0, 1, 2], most=1), Wish.of(4, [0], most=0)])
        self.exact((keepers(book), near_bases(book)), ([], [(0, 2, 3), (1, 2, 3)]))
        self.exact(near_bases(Book(Choice(3, 2), [])), [(0, 1), (0, 2), (1, 2)])
        self.exact(keepers(Book(Choice(0, 0), [Wish([], least=0)])), [()])
        self.exact(near_bases(Book(Choice(0, 0), [Wish([], least=1)])), [])

    def test_new_lists(self):
        book = Book(Choice(2, 1), [])
        for call in (keepers, near_bases):
            call(book).clear()
            self.exact(call(book), [(0,), (1,)])
