"""Points 3 to 5, 30, 31 and 61 and the section nodearer/desk/edits.py."""

from random import Random

from nodearer.desk.edits import edited, inverse
from nodearer.errors import NodearerError, NumberError, SizeError, ThingError, WishError
from nodearer.families.counts import Choice, Groups
from nodearer.families.turned import Mirror
from nodearer.wishes.books import Book
from nodearer.wishes.wishes import Wish
from tests.helpers import Case
from tests.plans import FAMILIES, borne, some_book
from tests.settled import some_costs

PAIRS = Groups([0, 0, 1, 1], [1, 1])
FIRST = Wish.of(4, [0, 2], most=1)
SECOND = Wish([1, 0, 0, 1], most=2, least=1)
BOOK = Book(PAIRS, [FIRST, SECOND])
COSTS = [1, 2, 3, 4]
HEAVY = Book(PAIRS, [Wish([3, 0, 0, 0], most=2), FIRST])


def some_edit(random, book):
    """An edit, which may be refused."""
    things, many = book.family.things, len(book.wishes)
    word = random.choice(["cost", "most", "least", "wish", "strike", "family"])
    if word == "cost":
        return word, random.randrange(things) if things else 0, random.choice([0, 5, -10 ** 6, random.randint(-9, 9)])
    if word in ("most", "least"):
        return word, random.randrange(many + 1), random.choice([None, 0, 1, 2, 3, random.randint(-3, 9)])
    if word == "wish":
        weights = [random.randint(0, random.choice([1, 1, 1, 3])) for _ in range(things)]
        if max(weights, default=0) > 1:
            return word, random.randint(0, many), Wish(weights, most=random.randint(0, 9))
        most, least = random.choice([(2, None), (None, 1), (3, 1), (1, 1)])
        return word, random.randint(0, many), Wish(weights, most=most, least=least)
    if word == "strike":
        return word, random.randrange(many + 1)
    return word, random.choice([family for family in FAMILIES if family.things == things])


def edited_by(book, costs, edit):
    """The family, the numbers of the wishes and the costs after an edit by point 61."""
    costs = list(costs)
    wishes = [(wish.weights, wish.most, wish.least) for wish in book.wishes]
    family = book.family
    if edit[0] == "cost":
        costs[edit[1]] = edit[2]
    elif edit[0] == "most":
        wishes[edit[1]] = (wishes[edit[1]][0], edit[2], wishes[edit[1]][2])
    elif edit[0] == "least":
        wishes[edit[1]] = wishes[edit[1]][:2] + (edit[2],)
    elif edit[0] == "wish":
        wishes.insert(edit[1], (edit[2].weights, edit[2].most, edit[2].least))
    elif edit[0] == "strike":
        wishes.pop(edit[1])
    else:
        family = edit[1]
    return family, wishes, costs


def is_possible(family, wishes):
    """Whether points 30 and 31 allow the book."""
    heavy = any(weight > 1 for weights, _, _ in wishes for weight in weights)
    return (len(wishes) <= 5 and all(len(weights) == family.things for weights, _, _ in wishes)
            and all((most, least) != (None, None) for _, most, least in wishes)
            and all(most is None or least is None or least <= most for _, most, least in wishes)
            and not (heavy and any(least is not None for _, _, least in wishes)))


class EditsTest(Case):
    def check(self, book, costs, edit, others):
        """The edit does what the definition says; returns the book and the costs after it."""
        family, wishes, prices = others
        told = self.asked(edited, book, costs, edit)
        self.assertEqual((told.__class__, told[1].__class__), (tuple, list))
        after = told[0]
        self.assertEqual(after.family, family)
        self.exact([(wish.weights, wish.most, wish.least) for wish in after.wishes], wishes)
        self.exact(told[1], prices)
        self.assertEqual((after.deep, after.kind), (Book(family, after.wishes).deep, Book(family, after.wishes).kind))
        back = self.asked(inverse, book, costs, edit)
        self.assertIs(back.__class__, tuple)
        self.assertEqual(back, self.inverse_by(book, costs, edit))
        before = edited(after, told[1], back)
        self.assertEqual(before, (book, list(costs)))
        self.assertEqual(inverse(after, told[1], back), edit)
        return told

    def inverse_by(self, book, costs, edit):
        if edit[0] == "cost":
            return ("cost", edit[1], costs[edit[1]])
        if edit[0] == "wish":
            return ("strike", edit[1])
        if edit[0] == "strike":
            return ("wish", edit[1], book.wishes[edit[1]])
        return (edit[0], book.family) if edit[0] == "family" else (
            edit[0], edit[1], getattr(book.wishes[edit[1]], edit[0]))

    def test_definition(self):
        random = Random(122)
        seen = {}
        for family in FAMILIES:
            book, costs = some_book(random, family, borne(random, family)), some_costs(random, family.things)
            for _ in range(60):
                edit = some_edit(random, book)
                if edit[0] == "cost" and not family.things or edit[0] in ("most", "least", "strike") \
                        and edit[1] == len(book.wishes):
                    error = ThingError if edit[0] == "cost" else WishError
                    self.refused(error, (edit[1],), edited, book, costs, edit)
                    self.refused(error, (edit[1],), inverse, book, costs, edit)
                    continue
                others = edited_by(book, costs, edit)
                fine = is_possible(*others[:2])
                seen[edit[0], fine] = seen.get((edit[0], fine), 0) + 1
                if fine:
                    book, costs = self.check(book, costs, edit, others)
                else:
                    for call in (edited, inverse):
                        with self.assertRaises(NodearerError):
                            call(book, costs, edit)
        self.assertGreater(min(seen.values()), 5)
        self.assertEqual(len(seen), 6 + 3)

    def test_told(self):
        book, costs = edited(BOOK, (1, 2, 3, 4), ("cost", 3, -7))
        self.assertEqual(book, BOOK)
        self.exact(costs, [1, 2, 3, -7])
        self.exact(inverse(BOOK, (1, 2, 3, 4), ("cost", 3, -7)), ("cost", 3, 4))
        book, costs = edited(BOOK, COSTS, ("most", 1, None))
        self.assertEqual(book, Book(PAIRS, [FIRST, Wish([1, 0, 0, 1], least=1)]))
        self.exact(costs, [1, 2, 3, 4])
        self.exact(inverse(BOOK, COSTS, ("most", 1, None)), ("most", 1, 2))
        self.exact(inverse(BOOK, COSTS, ("least", 0, 0)), ("least", 0, None))
        self.assertEqual(edited(BOOK, COSTS, ("strike", 0))[0], Book(PAIRS, [SECOND]))
        self.assertEqual(inverse(BOOK, COSTS, ("strike", 0)), ("wish", 0, FIRST))
        third = Wish([1] * 4, least=0)
        for at in range(3):
            wishes = [FIRST, SECOND]
            wishes.insert(at, third)
            self.assertEqual(edited(BOOK, COSTS, ("wish", at, third))[0], Book(PAIRS, wishes))
            self.exact(inverse(BOOK, COSTS, ("wish", at, third)), ("strike", at))
        self.assertEqual(edited(BOOK, COSTS, ("family", Choice(4, 1)))[0], Book(Choice(4, 1), [FIRST, SECOND]))
        self.assertEqual(inverse(BOOK, COSTS, ("family", Choice(4, 1))), ("family", PAIRS))

    def test_edits_that_change_nothing(self):
        for edit in (("cost", 0, 1), ("most", 0, 1), ("least", 0, None), ("least", 1, 1), ("family", PAIRS)):
            self.assertEqual(edited(BOOK, COSTS, edit), (BOOK, COSTS))
            self.assertEqual(inverse(BOOK, COSTS, edit), edit)
        same = Book(PAIRS, [FIRST, FIRST])
        self.assertEqual(inverse(same, COSTS, ("wish", 1, FIRST)), ("strike", 1))
        self.assertEqual(inverse(same, COSTS, ("strike", 1)), ("wish", 1, FIRST))

    def test_families_are_kept_as_they_are_told(self):
        """The inverse has the former family, not only an equal one."""
        mirror = Mirror(PAIRS)
        book = Book(mirror, [FIRST])
        back = inverse(book, COSTS, ("family", Choice(4, 2)))
        self.assertIsInstance(back[1], Mirror)
        self.assertEqual(edited(BOOK, COSTS, ("family", mirror))[0].family, mirror)

    def refuse(self, error, fields, book, costs, edit):
        for call in (edited, inverse):
            self.refused(error, fields, call, book, costs, edit)

    def test_looks(self):
        """The costs come before the edit, and the parts of the edit in their order."""
        far = 10 ** 6 + 1
        for edit in (("cost", 9, far), ("strike", 7), ("family", Choice(3, 1)), ("cost", 0, 0)):
            self.refuse(SizeError, (3,), BOOK, [far] * 3, edit)
            self.refuse(SizeError, (5,), BOOK, (0,) * 5, edit)
            self.refuse(NumberError, (far,), BOOK, [0, far, -far, 0], edit)
        for thing in (4, -1, 10 ** 30):
            self.refuse(ThingError, (thing,), BOOK, COSTS, ("cost", thing, far))
        for cost in (far, -far):
            self.refuse(NumberError, (cost,), BOOK, COSTS, ("cost", 3, cost))
        self.exact(edited(BOOK, COSTS, ("cost", 3, 10 ** 6))[1], [1, 2, 3, 10 ** 6])
        for word in ("most", "least"):
            for at in (2, -1, -2, 10 ** 30):
                self.refuse(WishError, (at,), BOOK, COSTS, (word, at, 1001))
            for number in (1001, -1001):
                self.refuse(NumberError, (number,), BOOK, COSTS, (word, 1, number))
        for at in (3, -1, -3):
            self.refuse(WishError, (at,), BOOK, COSTS, ("wish", at, Wish([1] * 3, most=1)))
        for at in (2, -1, -2):
            self.refuse(WishError, (at,), BOOK, COSTS, ("strike", at))
        self.refuse(WishError, (0,), Book(PAIRS, []), COSTS, ("strike", 0))

    def test_refused_books(self):
        """What the classes of the new wish or book raise."""
        self.refuse(WishError, (None,), BOOK, COSTS, ("most", 0, None))
        self.refuse(WishError, (None,), BOOK, COSTS, ("most", 1, 0))
        self.refuse(WishError, (None,), BOOK, COSTS, ("least", 1, 3))
        self.refuse(WishError, (None,), HEAVY, COSTS, ("least", 0, 0))
        self.refuse(WishError, (1,), HEAVY, COSTS, ("least", 1, 0))
        self.refuse(SizeError, (3,), BOOK, COSTS, ("family", Choice(3, 1)))
        self.refuse(SizeError, (0,), BOOK, COSTS, ("family", Choice(0, 0)))
        self.refuse(SizeError, (5,), BOOK, COSTS, ("wish", 0, Wish([1] * 5, most=1)))
        heavy = Wish([2, 0, 0, 0], most=1)
        # The indexes are those of the new book.
        self.refuse(WishError, (2,), BOOK, COSTS, ("wish", 0, heavy))
        self.refuse(WishError, (1,), BOOK, COSTS, ("wish", 2, heavy))
        self.refuse(WishError, (0,), HEAVY, COSTS, ("wish", 0, SECOND))
        self.refuse(WishError, (2,), HEAVY, COSTS, ("wish", 2, SECOND))
        self.assertEqual(edited(Book(PAIRS, [heavy]), COSTS, ("strike", 0))[0].kind, "most")

    def test_six_wishes(self):
        full = Book(PAIRS, [FIRST] * 5)
        for wish in (FIRST, Wish([1] * 3, most=1), Wish([2, 0, 0, 0], most=1), Wish([], most=1)):
            self.refuse(SizeError, (6,), full, COSTS, ("wish", 5, wish))
        self.refuse(WishError, (6,), full, COSTS, ("wish", 6, FIRST))
        self.refuse(WishError, (-1,), full, COSTS, ("wish", -1, FIRST))
        self.assertEqual(len(edited(full, COSTS, ("strike", 4))[0].wishes), 4)

    def test_lists_are_new(self):
        costs = [1, 2, 3, 4]
        for edit in (("cost", 0, 5), ("strike", 0), ("family", Choice(4, 1))):
            told = edited(BOOK, costs, edit)[1]
            told[1] = 9
            self.exact(costs, [1, 2, 3, 4])
