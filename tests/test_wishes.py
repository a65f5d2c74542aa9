"""Points 3 to 5, 9, 10, 30 and 57 (the line of a wish) and the section nodearer/wishes/wishes.py."""

from itertools import product
from random import Random

from nodearer.errors import NumberError, SizeError, ThingError, WishError
from nodearer.wishes.wishes import Wish
from tests.helpers import subsets
from tests.plans import HALF, PlanCase, R, count_by, fracs, mean_by, missed_by, ratio_for


class MakingTest(PlanCase):
    def test_fields(self):
        wish = Wish([0, 7, 1, 0, 20], most=-3)
        self.exact((wish.weights, wish.most, wish.least, wish.plain, wish.greatest, wish.lot),
                   ((0, 7, 1, 0, 20), -3, None, False, 20, (1, 2, 4)))
        wish = Wish((1, 0, 1), least=2, most=2)
        self.exact((wish.weights, wish.most, wish.least, wish.plain, wish.greatest, wish.lot),
                   ((1, 0, 1), 2, 2, True, 1, (0, 2)))
        wish = Wish([0, 0], least=-1000)
        self.exact((wish.weights, wish.most, wish.least, wish.plain, wish.greatest, wish.lot),
                   ((0, 0), None, -1000, True, 0, ()))
        wish = Wish([2], most=1000)
        self.exact((wish.plain, wish.greatest, wish.lot), (False, 2, (0,)))

    def test_no_weights_and_ten(self):
        wish = Wish([], most=0)
        self.exact((wish.weights, wish.plain, wish.greatest, wish.lot), ((), True, 0, ()))
        self.exact((wish.count_in([]), wish.keeps(()), wish.missed([]), wish.mean_in([])), (0, True, 0, R(0)))
        self.exact(Wish([20] * 10, most=200).count_in(range(10)), 200)
        self.refused(SizeError, (11,), Wish, [21] * 11, most=2000)

    def test_of(self):
        for things in (0, 1, 4):
            for lot in subsets(things):
                wish = self.asked(Wish.of, things, list(lot)[::-1] * 2, most=1, least=0)
                self.assertIs(wish.__class__, Wish)
                self.exact((wish.weights, wish.lot), (tuple(int(x in lot) for x in range(things)), lot))
                self.exact((wish.most, wish.least, wish.plain), (1, 0, True))
        self.exact(Wish.of(10, (9,) * 60, least=-1).weights, (0,) * 9 + (1,))
        self.exact((Wish.of(2, [0], most=3).least, Wish.of(2, [0], least=3).most), (None, None))

    def test_later_changes(self):
        weights = [1, 0]
        wish = Wish(weights, most=1)
        weights[1] = 5
        self.exact((wish.weights, wish.lot), ((1, 0), (0,)))

    def test_refusals(self):
        self.refused(NumberError, (21,), Wish, [0, 20, 21, -1], most=1001)
        self.refused(NumberError, (-1,), Wish, [0, -1, 21])
        self.refused(NumberError, (1001,), Wish, [0, 2], most=1001, least=-1001)
        self.refused(NumberError, (-1001,), Wish, [0, 2], most=-1001, least=0)
        self.refused(NumberError, (-1001,), Wish, [0, 2], most=-1000, least=-1001)
        self.refused(NumberError, (1001,), Wish, [0, 2], least=1001)
        self.exact(Wish([0, 1], most=1000, least=-1000).most, 1000)
        self.exact(Wish([0, 1], least=1000).least, 1000)
        self.exact(Wish([0, 2], most=-1000).most, -1000)

    def test_wishes_that_cannot_be_made(self):
        for args, more in ((([1, 0],), {}), (([],), {}), (([2],), {}), (([0, 1],), {"most": 1, "least": 2}),
                           (([0, 2],), {"least": 1}), (([0, 2],), {"most": 3, "least": 1}),
                           (([2],), {"most": 0, "least": 1})):
            self.refused(WishError, (None,), Wish, *args, **more)
        self.exact(Wish([0, 1], most=-2, least=-2).most, -2)

    def test_refusals_of_of(self):
        self.refused(NumberError, (11,), Wish.of, 11, [12], most=2000)
        self.refused(NumberError, (-1,), Wish.of, -1, [12])
        self.refused(ThingError, (3,), Wish.of, 3, [0, 3, -1], most=2000)
        self.refused(SizeError, (61,), Wish.of, 3, [7] * 61)
        self.refused(NumberError, (1001,), Wish.of, 3, [0], most=1001)
        self.refused(WishError, (None,), Wish.of, 3, [0])
        self.refused(WishError, (None,), Wish.of, 3, [0], most=0, least=1)


class AskingTest(PlanCase):
    def test_definition(self):
        random = Random(46)
        for _ in range(200):
            things, heavy = random.randrange(6), random.choice([1, 3, 20])
            weights = [random.randint(0, heavy) for _ in range(things)]
            most, least = random.choice([(5, None), (None, 2), (3, 1), (0, 0), (-1, None), (None, -4), (2, -1)])
            if heavy > 1:
                most, least = random.randint(-3, 30), None
            wish = Wish(weights, most=most, least=least)
            for lot in subsets(things):
                count = count_by(wish, lot)
                self.exact(self.asked(wish.count_in, list(lot)[::-1] * 3), count)
                self.exact(self.asked(wish.missed, list(lot)), missed_by(wish, count))
                self.assertIs(self.asked(wish.keeps, lot), not missed_by(wish, count))
            shares = [R(random.randint(0, 7), 7) for _ in weights]
            self.exact(self.asked(wish.mean_in, shares), ratio_for(mean_by(wish, fracs(shares))))

    def test_told(self):
        wish = Wish([3, 0, 5], most=4)
        self.exact((wish.count_in([2, 0, 2]), wish.missed([0, 2]), wish.missed([0, 1])), (8, 4, 0))
        both = Wish([1, 1, 1], most=2, least=2)
        self.exact([both.missed(lot) for lot in ([], [1], [1, 2], [0, 1, 2])], [2, 1, 0, 1])
        self.exact([both.keeps(lot) for lot in ([], [1], [1, 2], [0, 1, 2])], [False, False, True, False])
        self.exact(Wish([1], least=1000).missed([0]), 999)
        self.exact(wish.mean_in((HALF, R(1), R(1, 10 ** 20))), R(3 * 10 ** 20 + 10, 2 * 10 ** 20))

    def test_lots_and_shares_are_looked_at(self):
        wish = Wish([1, 0, 1], most=1)
        for call in (wish.count_in, wish.keeps, wish.missed):
            self.refused(ThingError, (3,), call, [0, 3, -1])
            self.refused(ThingError, (-1,), call, [2, -1])
            self.refused(SizeError, (61,), call, [9] * 61)
            call([0] * 60)
        self.shares_are_looked_at(wish.mean_in, 3)

    def test_equal(self):
        one = Wish([1, 0], most=1, least=0)
        self.assertIs(one == Wish.of(2, [0, 0], most=1, least=0), True)
        for other in (Wish([1, 0], most=1), Wish([1, 0], least=0), Wish([1, 0], most=1, least=1),
                      Wish([1, 0], most=2, least=0), Wish([1, 1], most=1, least=0), Wish([1, 0, 0], most=1, least=0),
                      Wish([1], most=1, least=0), None, "wish 1 0 most 1 least 0", [1, 0], R(1)):
            self.assertIs(one == other, False)

    def test_line(self):
        self.exact(str(Wish([1, 1, 0], most=1, least=0)), "wish 1 1 0 most 1 least 0")
        self.exact(str(Wish((20, 0), most=-1000)), "wish 20 0 most -1000")
        self.exact(str(Wish([0], least=7)), "wish 0 least 7")
        self.exact(str(Wish([], most=0)), "wish most 0")
        self.exact(str(Wish([], most=1, least=-1)), "wish most 1 least -1")
        for weights, most, least in product([(0,), (1, 1)], [None, 5], [None, -5]):
            if most is not None or least is not None:
                words = ["wish", *weights] + (["most", most] if most else []) + (["least", least] if least else [])
                self.exact(str(Wish(weights, most=most, least=least)), " ".join(str(word) for word in words))
