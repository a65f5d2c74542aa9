"""Points 3 to 5, 44 and 61 to 64 and the section nodearer/desk/desks.py."""

from random import Random

from nodearer.desk.desks import Desk
from nodearer.desk.edits import edited, inverse
from nodearer.errors import HistoryError, NodearerError, NumberError, SizeError, ThingError, WishError
from nodearer.families.counts import Choice, Groups
from nodearer.wishes.books import Book
from nodearer.wishes.wishes import Wish
from tests.helpers import snapshot
from tests.plans import FAMILIES, borne, some_book
from tests.settled import AnswerCase, is_right, some_costs
from tests.test_edits import some_edit

PAIRS = Groups([0, 0, 1, 1], [1, 1])
FIRST = Wish.of(4, [0, 2], most=1)
BOOK = Book(PAIRS, [FIRST])
COSTS = [1, 2, 3, 4]
EDITS = [("cost", 0, 9), ("most", 0, 0), ("wish", 1, Wish.of(4, [1], least=1)), ("family", Choice(4, 2)), ("strike", 0)]


class Mistake(Exception):
    """An error that no call raises."""


class Model:
    """A desk by points 61 to 63: the first book and costs, all edits, and how many of them are done."""

    def __init__(self, book, costs):
        self.start = (book, list(costs))
        self.edits, self.many = [], 0
        self.kept, self.made = None, 0

    def now(self):
        book, costs = self.start
        for edit in self.edits[:self.many]:
            book, costs = edited(book, costs, edit)
        return book, costs


class DeskCase(AnswerCase):
    def agrees(self, desk, model):
        book, costs = model.now()
        self.assertEqual((desk.book, desk.costs), (book, tuple(costs)))
        self.assertIs(desk.costs.__class__, tuple)
        self.assertEqual(desk.history(), model.edits[:model.many])
        self.assertEqual(desk.undone(), model.edits[model.many:])
        self.assertEqual((desk.history().__class__, desk.undone().__class__), (list, list))
        self.assertIs(desk.held, model.kept)
        self.exact(desk.made, model.made)

    def asks(self, desk, model):
        """The answer, which is kept as long as it is right."""
        book, costs = model.now()
        answer = desk.answer()
        if model.kept is not None and is_right(book, costs, model.kept):
            self.assertIs(answer, model.kept)
        else:
            self.assertIsNot(answer, model.kept)
            model.kept = answer
            model.made += 1
        self.answer_is_right(book, costs, answer)

    def unchanged(self, desk, call):
        """A call that leaves the desk as it is."""
        before, kept, book = snapshot(desk), desk.held, desk.book
        value = call()
        self.assertEqual(snapshot(desk), before)
        self.assertIs(desk.held, kept)
        self.assertIs(desk.book, book)
        return value


class HistoryTest(DeskCase):
    def test_fields(self):
        costs = [1, 2, 3, 4]
        desk = Desk(BOOK, costs)
        costs[0] = 7
        self.exact((desk.costs, desk.made, desk.held), ((1, 2, 3, 4), 0, None))
        self.assertEqual(desk.book, BOOK)
        self.exact((desk.history(), desk.undone()), ([], []))

    def test_refusals(self):
        self.refused(SizeError, (3,), Desk, BOOK, [10 ** 7] * 3)
        self.refused(SizeError, (5,), Desk, BOOK, (0,) * 5)
        self.refused(NumberError, (10 ** 6 + 1,), Desk, BOOK, [0, 10 ** 6 + 1, -10 ** 7, 0])
        desk = Desk(BOOK, COSTS)
        for call in (desk.undo, desk.redo):
            self.refused(HistoryError, (), call)
        self.refused(ThingError, (4,), desk.do, ("cost", 4, 10 ** 7))
        self.refused(NumberError, (10 ** 7,), desk.do, ("cost", 3, 10 ** 7))
        self.refused(WishError, (1,), desk.do, ("strike", 1))
        self.refused(WishError, (None,), desk.do, ("most", 0, None))
        self.refused(SizeError, (3,), desk.do, ("family", Choice(3, 1)))
        desk.do(EDITS[0])
        self.refused(HistoryError, (), desk.redo)
        desk.undo()
        self.refused(HistoryError, (), desk.undo)
        self.refused(WishError, (-1,), desk.do, ("least", -1, 10 ** 7))
        self.assertEqual(desk.redo(), EDITS[0])

    def test_told(self):
        desk = Desk(BOOK, COSTS)
        for edit in EDITS:
            back = inverse(desk.book, desk.costs, edit)
            self.assertEqual(desk.do(edit), back)
        self.assertEqual(desk.history(), EDITS)
        self.assertEqual(desk.book, Book(Choice(4, 2), [Wish.of(4, [1], least=1)]))
        self.exact(desk.costs, (9, 2, 3, 4))
        self.assertIs(desk.undo(), EDITS[4])
        self.assertEqual(desk.book.wishes[0], Wish.of(4, [0, 2], most=0))
        for edit in EDITS[3::-1]:
            self.assertIs(desk.undo(), edit)
        self.assertEqual((desk.book, desk.costs), (BOOK, tuple(COSTS)))
        self.assertEqual(desk.undone(), EDITS)
        self.assertIs(desk.redo(), EDITS[0])
        self.assertIs(desk.redo(), EDITS[1])
        self.assertEqual((desk.history(), desk.undone()), (EDITS[:2], EDITS[2:]))
        # A new edit makes all undone edits impossible to redo.
        desk.do(("cost", 1, 5))
        self.assertEqual((desk.history(), desk.undone()), (EDITS[:2] + [("cost", 1, 5)], []))
        self.refused(HistoryError, (), desk.redo)

    def test_refused_edits_keep_what_can_be_redone(self):
        desk = Desk(BOOK, COSTS)
        desk.do(EDITS[0])
        desk.undo()
        self.refused(ThingError, (9,), desk.do, ("cost", 9, 0))
        self.assertEqual(desk.undone(), [EDITS[0]])

    def test_lists_are_new(self):
        desk = Desk(BOOK, COSTS)
        desk.do(EDITS[0])
        desk.do(EDITS[1])
        desk.undo()
        desk.history().clear()
        desk.undone().clear()
        self.assertEqual((desk.history(), desk.undone()), ([EDITS[0]], [EDITS[1]]))

    def test_asking_changes_nothing(self):
        desk = Desk(BOOK, COSTS)
        desk.do(EDITS[0])
        desk.answer()
        self.unchanged(desk, lambda: (desk.history(), desk.undone(), desk.held, desk.answer()))

    def test_long_histories(self):
        random = Random(123)
        for family in FAMILIES[1::3]:
            book, costs = some_book(random, family, borne(random, family)), some_costs(random, family.things)
            desk, model = Desk(book, costs), Model(book, costs)
            for _ in range(60):
                self.some_deed(random, desk, model)
                self.agrees(desk, model)
            while desk.history():
                desk.undo()
                model.many -= 1
            self.agrees(desk, model)
            while desk.undone():
                desk.redo()
                model.many += 1
            self.agrees(desk, model)
            fresh = Desk(desk.book, desk.costs)
            self.assertEqual(desk.answer().KIND, fresh.answer().KIND)
            if desk.answer().KIND == "settlement":
                self.exact(desk.answer().value, fresh.answer().value)
            self.assertGreater(model.made, 0)

    def some_deed(self, random, desk, model):
        word = random.choice(["do", "do", "do", "undo", "redo", "answer", "trial", "with"])
        if word == "do":
            edit = some_edit(random, desk.book)
            try:
                back = inverse(desk.book, desk.costs, edit)
            except NodearerError as error:
                with self.assertRaises(error.__class__):
                    desk.do(edit)
                return
            self.assertEqual(desk.do(edit), back)
            model.edits[model.many:] = [edit]
            model.many += 1
        elif word == "undo" and model.many:
            model.many -= 1
            self.assertIs(desk.undo(), model.edits[model.many])
        elif word == "redo" and model.many < len(model.edits):
            self.assertIs(desk.redo(), model.edits[model.many])
            model.many += 1
        elif word == "answer":
            self.asks(desk, model)
        elif word in ("trial", "with"):
            edits = [some_edit(random, desk.book) for _ in range(random.randint(0, 4))]
            self.try_out(desk, edits, word)

    def try_out(self, desk, edits, word):
        """A trial, refused or not, leaves the desk as it is."""
        book, costs = desk.book, desk.costs
        try:
            for edit in edits:
                book, costs = edited(book, costs, edit)
        except NodearerError as error:
            with self.assertRaises(error.__class__):
                self.unchanged_after_error(desk, lambda: desk.answer_with(edits))
            return
        if word == "with":
            self.answer_is_right(book, costs, self.unchanged(desk, lambda: desk.answer_with(edits)))
            return

        def inside():
            with desk.trial(edits) as told:
                self.assertIs(told, desk)
                self.assertEqual((desk.book, desk.costs), (book, tuple(costs)))
                self.assertEqual(desk.history()[len(desk.history()) - len(edits):], edits)
                self.answer_is_right(book, costs, desk.answer())
                while desk.history():
                    desk.undo()
        self.unchanged(desk, inside)

    def unchanged_after_error(self, desk, call):
        before, kept = snapshot(desk), desk.held
        try:
            call()
        finally:
            self.assertEqual(snapshot(desk), before)
            self.assertIs(desk.held, kept)


class AnswerTest(DeskCase):
    def test_kept_answers(self):
        desk = Desk(BOOK, COSTS)
        first = desk.answer()
        self.answer_is_right(BOOK, COSTS, first)
        self.exact(desk.made, 1)
        self.assertIs(desk.answer(), first)
        self.assertIs(desk.held, first)

    def test_right_after_edits(self):
        """Edits that leave the answer right leave it the same object, and no settlement is counted."""
        desk = Desk(Book(Choice(3, 1), []), [0, 5, 9])
        first = desk.answer()
        for edit in (("cost", 2, 1), ("family", Groups([0, 0, 0], [1])), ("cost", 1, 0), ("cost", 0, 0)):
            desk.do(edit)
            self.assertIs(desk.answer(), first)
        desk.undo()
        desk.redo()
        self.assertIs(desk.answer(), first)
        self.exact(desk.made, 1)
        desk.do(("cost", 1, -1))
        self.assertIsNot(desk.answer(), first)
        self.exact((desk.made, desk.answer().plan), (2, (1,)))

    def test_wrong_in_between(self):
        """After an edit that makes the answer wrong, and undoing this edit, it is the same answer again."""
        desk = Desk(BOOK, COSTS)
        first = desk.answer()
        desk.do(("cost", 0, -5))
        self.assertFalse(first.holds(desk.book, desk.costs))
        self.assertIs(desk.held, first)
        desk.undo()
        self.assertIs(desk.answer(), first)
        self.exact(desk.made, 1)
        desk.redo()
        second = desk.answer()
        self.assertIsNot(second, first)
        self.assertIs(desk.held, second)
        self.exact(desk.made, 2)
        desk.undo()
        # Another answer has taken its place.
        self.assertIsNot(desk.answer(), first)
        self.exact(desk.made, 3)

    def test_refusals_and_settlements(self):
        desk = Desk(BOOK, COSTS)
        desk.do(("wish", 0, Wish.of(4, [0, 1], most=0)))
        refusal = desk.answer()
        self.exact((refusal.KIND, desk.made), ("refusal", 1))
        # Costs do not concern a refusal, and more wishes behind the others make it wrong by their number.
        desk.do(("cost", 0, 100))
        self.assertIs(desk.answer(), refusal)
        desk.do(("wish", 2, FIRST))
        self.assertIsNot(desk.answer(), refusal)
        self.exact(desk.made, 2)
        desk.do(("strike", 0))
        self.exact((desk.answer().KIND, desk.made), ("settlement", 3))
        desk.do(("family", Choice(4, 2)))
        desk.do(("family", PAIRS))
        self.assertIs(desk.answer(), desk.held)
        self.exact(desk.made, 3)

    def test_no_things(self):
        desk = Desk(Book(Choice(0, 0), []), [])
        self.exact(desk.answer().plan, ())
        desk.do(("wish", 0, Wish([], most=-1)))
        self.exact(desk.answer().KIND, "refusal")


class TrialTest(DeskCase):
    def desk(self):
        """A desk with a history, undone edits and an answer that is not right any more."""
        desk = Desk(BOOK, COSTS)
        desk.do(("cost", 3, 0))
        desk.answer()
        for edit in EDITS[:3]:
            desk.do(edit)
        desk.undo()
        return desk

    def test_ordinary_end(self):
        desk = self.desk()

        def inside():
            with desk.trial([("strike", 0), ("cost", 2, -3)]) as told:
                self.assertIs(told, desk)
                self.assertEqual(desk.history(), [("cost", 3, 0)] + EDITS[:2] + [("strike", 0), ("cost", 2, -3)])
                self.assertEqual((desk.undone(), desk.book.wishes), ([], ()))
                self.exact(desk.costs, (9, 2, -3, 0))
                first = desk.answer()
                self.assertIs(desk.answer(), first)
                self.exact(desk.made, 2)
                desk.do(("family", Choice(4, 1)))
                desk.answer()
                self.exact(desk.made, 3)
        self.unchanged(desk, inside)
        self.exact(desk.made, 1)
        self.assertEqual(desk.undone(), [EDITS[2]])
        self.assertIs(desk.redo(), EDITS[2])

    def test_error_in_the_block(self):
        desk = self.desk()
        for error in (Mistake("x"), NumberError(3), HistoryError()):
            def inside():
                with desk.trial(EDITS[3:4]):
                    desk.answer()
                    desk.do(("cost", 0, 3))
                    raise error
            with self.assertRaises(error.__class__) as caught:
                inside()
            self.assertIs(caught.exception, error)
            self.unchanged(desk, desk.history)
            self.assertEqual((desk.history(), desk.undone(), desk.made), ([("cost", 3, 0)] + EDITS[:2], [EDITS[2]], 1))
            self.assertEqual((desk.book, desk.costs), (Book(PAIRS, [Wish.of(4, [0, 2], most=0)]), (9, 2, 3, 0)))

    def test_refused_call_in_the_block(self):
        desk = self.desk()

        def inside():
            with desk.trial([]):
                desk.do(("cost", 9, 0))
        before = snapshot(desk)
        self.refused(ThingError, (9,), inside)
        self.assertEqual(snapshot(desk), before)

    def test_refused_edits(self):
        desk = self.desk()
        before, reached = snapshot(desk), []

        def inside(edits):
            with desk.trial(edits):
                reached.append(edits)
        for edits, error, fields in (
                ([("cost", 0, 1), ("cost", 4, 1), ("strike", 9)], ThingError, (4,)),
                ([("strike", 0), ("strike", 0)], WishError, (0,)), ([("most", 0, None)], WishError, (None,)),
                ([("family", Choice(4, 0)), ("family", Choice(5, 0))], SizeError, (5,)),
                ([("cost", 0, 1)] * 19 + [("least", 0, 2000)], NumberError, (2000,))):
            self.refused(error, fields, inside, edits)
            self.refused(error, fields, desk.answer_with, edits)
            self.assertEqual(snapshot(desk), before)
        self.assertEqual(reached, [])

    def test_edits_for_the_book_that_the_edits_before_have_made(self):
        desk = self.desk()
        last = Wish([1] * 4, most=2)
        answer = desk.answer_with([("strike", 0), ("wish", 0, last), ("most", 0, 3), ("family", Choice(4, 3))])
        self.answer_is_right(Book(Choice(4, 3), [Wish([1] * 4, most=3)]), (9, 2, 3, 0), answer)

    def test_number_of_edits(self):
        desk = self.desk()
        many = [("cost", 0, number) for number in range(21)]
        for call in (desk.trial, desk.answer_with):
            self.refused(SizeError, (21,), call, many)
            self.refused(SizeError, (21,), call, [("strike", 9)] * 21)
            self.refused(SizeError, (21,), call, tuple(many))
        self.assertEqual(desk.answer_with(many[:20]).KIND, desk.answer_with([]).KIND)
        with desk.trial(tuple(many[:20])):
            self.assertEqual(len(desk.history()), 23)

    def test_nothing_happens_before_the_block(self):
        desk = self.desk()
        edits = [("cost", 0, 7)]
        trial = self.unchanged(desk, lambda: desk.trial(edits))
        edits.append(("cost", 9, 9))
        desk.do(("cost", 1, 1))
        with trial:
            self.exact(desk.costs, (7, 1, 3, 0))
            self.assertEqual(desk.history()[-2:], [("cost", 1, 1), ("cost", 0, 7)])
        self.exact(desk.costs, (9, 1, 3, 0))
        self.assertEqual(desk.history()[-1], ("cost", 1, 1))
        self.unchanged(desk, lambda: desk.trial([("cost", 99, 99)]))

    def test_undo_goes_behind(self):
        desk = self.desk()

        def inside():
            with desk.trial([("strike", 0)]):
                for _ in range(4):
                    desk.undo()
                self.assertEqual((desk.book, desk.costs), (BOOK, tuple(COSTS)))
                self.assertEqual(desk.undone(), [("cost", 3, 0)] + EDITS[:2] + [("strike", 0)])
                self.refused(HistoryError, (), desk.undo)
                desk.do(("cost", 1, 77))
                self.assertEqual((desk.history(), desk.undone()), ([("cost", 1, 77)], []))
        self.unchanged(desk, inside)
        self.assertEqual(desk.undo(), EDITS[1])

    def test_trial_inside_a_trial(self):
        desk = self.desk()

        def inner():
            with desk.trial([("cost", 1, -8)]):
                desk.answer()
                self.exact(desk.costs, (9, -8, -9, 0))
                desk.undo()
                desk.undo()
                raise Mistake("inside")

        def outer():
            with desk.trial([("cost", 2, -9)]):
                answer = desk.answer()
                self.exact(desk.made, 2)
                with self.assertRaises(Mistake):
                    inner()
                self.exact((desk.made, desk.costs), (2, (9, 2, -9, 0)))
                self.assertIs(desk.held, answer)
                self.assertIs(desk.answer(), answer)
                self.unchanged(desk, lambda: desk.answer_with([("cost", 2, 9)]))
                with self.assertRaises(WishError):
                    with desk.trial([("strike", 0), ("strike", 0)]):
                        pass
                self.exact(desk.costs, (9, 2, -9, 0))
        self.unchanged(desk, outer)
        self.exact((desk.made, desk.costs), (1, (9, 2, 3, 0)))

    def test_answers_within_a_trial(self):
        """The kept answer serves in the block; an answer that is made there is forgotten."""
        desk = Desk(BOOK, COSTS)
        first = desk.answer()
        with desk.trial([("wish", 1, Wish([0] * 4, most=0))]):
            self.assertIs(desk.held, first)
            self.assertIsNot(desk.answer(), first)
            desk.undo()
            desk.answer()
        self.assertIs(desk.held, first)
        self.assertIs(desk.answer(), first)
        self.assertIs(desk.answer_with([]), first)
        self.assertIs(desk.answer_with([("cost", 0, 5), ("cost", 0, 1)]), first)
        self.exact(desk.made, 1)
        fresh = Desk(BOOK, COSTS)
        fresh.answer_with([("cost", 0, 5)])
        self.exact((fresh.held, fresh.made, fresh.history(), fresh.undone()), (None, 0, [], []))

    def test_empty_trial(self):
        desk = self.desk()
        with desk.trial([]):
            self.assertEqual(desk.undone(), [EDITS[2]])
            desk.redo()
            self.assertEqual(desk.undone(), [])
        self.assertEqual(desk.undone(), [EDITS[2]])
