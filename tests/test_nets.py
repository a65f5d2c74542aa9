"""Points 3 to 5, 9, 44, 50, 53 and 65 and the section nodearer/fronts/nets.py."""

from random import Random

from nodearer.errors import NumberError, SizeError, ThingError
from nodearer.families.webs import Web
from nodearer.fronts.front import Front
from nodearer.fronts.nets import Net
from nodearer.wishes.books import Book
from nodearer.wishes.wishes import Wish
from tests.helpers import subsets
from tests.settled import AnswerCase

CABLES = [(0, 1, 4), (1, 2, 3), (0, 2, 5), (0, 1, 6)]


def book_by(places, cables, ports):
    """The book of point 53."""
    wishes = [Wish([1 if place in cable[:2] else 0 for cable in cables], most=ports[place]) for place in range(places)]
    return Book(Web(places, [cable[:2] for cable in cables]), wishes)


def some_net(random):
    places = random.randint(1, 5)
    cables = []
    if places > 1:
        for _ in range(random.randint(0, 10)):
            one, two = random.sample(range(places), 2)
            cables.append((one, two, random.randint(-9, 9)))
    return places, cables, [random.choice([0, 1, 1, 2, 2, 3, 10]) for _ in range(places)]


class NetTest(AnswerCase):
    def test_fields(self):
        cables, ports = [[0, 1, 4], (2, 1, -3)], [1, 2, 0]
        net = Net(3, cables, ports)
        cables[0][2] = 9
        cables.append((0, 2, 1))
        ports[0] = 7
        self.assertIsInstance(net, Front)
        self.exact((net.places, net.cables, net.ports), (3, ((0, 1, 4), (2, 1, -3)), (1, 2, 0)))
        self.exact(net.costs, (4, -3))
        self.assertEqual(net.book, book_by(3, [(0, 1, 4), (2, 1, -3)], [1, 2, 0]))
        self.exact((net.book.family.places, net.book.family.ties), (3, ((0, 1), (2, 1))))
        self.exact(Net(3, tuple(cables), (1, 1, 1)).cables, ((0, 1, 9), (2, 1, -3), (0, 2, 1)))

    def test_definition(self):
        random = Random(119)
        seen = set()
        for _ in range(80):
            places, cables, ports = some_net(random)
            net = self.asked(Net, places, cables, ports)
            self.assertEqual(net.book, book_by(places, cables, ports))
            self.exact(net.costs, tuple(cable[2] for cable in cables))
            answer = self.asked(net.solve)
            value = self.answer_is_right(net.book, net.costs, answer)
            seen.add(value is None)
            for lot in random.sample(subsets(len(cables)), min(10, 2 ** len(cables))):
                ends = [place for thing in lot for place in cables[thing][:2]]
                turned = list(lot)[::-1] * 2
                self.exact(self.asked(net.over, turned),
                           [max(0, ends.count(place) - ports[place]) for place in range(places)])
                self.exact(self.asked(net.words, turned), [
                    f"cable {cables[thing][0]}-{cables[thing][1]} at {cables[thing][2]}" for thing in lot])
            if value is not None:
                for _, lot in answer.near:
                    self.assertLessEqual(max(net.over(lot)), 1)
        self.assertEqual(seen, {True, False})

    def test_told(self):
        answer = Net(3, CABLES, [1, 1, 1]).solve()
        self.assertEqual(answer.KIND, "refusal")
        net = Net(3, CABLES, [1, 2, 1])
        answer = net.solve()
        self.exact((str(answer.value), answer.plan, net.words(answer.plan), net.over(answer.plan)),
                   ("7", (0, 1), ["cable 0-1 at 4", "cable 1-2 at 3"], [0, 0, 0]))
        self.exact(net.over([0, 1, 2, 3]), [2, 1, 1])
        self.exact(Net(3, [(2, 0, -10 ** 6)], [0, 0, 0]).words((0,)), ["cable 2-0 at -1000000"])

    def test_few_places_and_cables(self):
        net = Net(1, [], [0])
        self.exact((net.cables, net.costs, net.over([]), net.words([])), ((), (), [0], []))
        self.exact(net.solve().plan, ())
        net = Net(2, [(1, 0, 7)] * 10, (1, 1))
        self.exact((net.solve().plan, len(net.book.wishes)), ((0,), 2))
        net = Net(5, [], [0] * 5)
        self.exact((net.solve().KIND, net.over(())), ("settlement", [0] * 5))
        self.exact(Net(2, [(0, 1, 1)], [0, 10]).solve().KIND, "refusal")

    def test_looks(self):
        """Each argument completely before the next one."""
        for cables, ports in ((CABLES, [1, 1, 1]), ([(9,)] * 11, []), ([(0, 0, 0)], [11] * 6)):
            self.refused(NumberError, (0,), Net, 0, cables, ports)
            self.refused(NumberError, (6,), Net, 6, cables, ports)
        for places in (1, 3, 5):
            for ports in ([1] * places, [], [-1]):
                self.refused(SizeError, (11,), Net, places, [(9,)] * 11, ports)
                self.refused(SizeError, (2,), Net, places, [(0, 1, 0), (0, 9), (9, 9, 9)], ports)
                self.refused(SizeError, (4,), Net, places, [[9, 9, 9, 9]], ports)
                self.refused(SizeError, (0,), Net, places, [()], ports)
                self.refused(NumberError, (5,), Net, places, [(0, 5, 10 ** 7), ()], ports)
                self.refused(NumberError, (-1,), Net, places, [(-1, 5, 10 ** 7)], ports)
                self.refused(NumberError, (10 ** 6 + 1,), Net, places, [(0, 4, 10 ** 6 + 1), (5, 5, 0)], ports)
                self.refused(NumberError, (-10 ** 6 - 1,), Net, places, [(4, 4, -10 ** 6 - 1)], ports)
        for cables in (CABLES, [], [(0, 0, 0)], [(4, 4, 4)]):
            self.refused(SizeError, (0,), Net, 3, cables, [])
            self.refused(SizeError, (6,), Net, 3, cables, [11] * 6)
            self.refused(NumberError, (11,), Net, 3, cables, [10, 11, -1])
            self.refused(NumberError, (-1,), Net, 3, cables, (0, 0, 0, -1))

    def test_conditions(self):
        for ports in ([1, 1, 1], [1] * 5):
            self.refused(NumberError, (3,), Net, 3, [(0, 0, 1), (0, 3, 1), (4, 4, 1)], ports)
            self.refused(NumberError, (4,), Net, 3, [(0, 0, 1), (4, 3, 1)], ports)
            self.refused(NumberError, (2,), Net, 3, [(0, 1, 1), (2, 2, 1), (0, 0, 1)], ports)
            self.refused(NumberError, (0,), Net, 1, [(0, 0, 1)], ports)
            self.refused(NumberError, (1,), Net, 1, [(0, 0, 1), (0, 1, 1)], ports)
        for many in (1, 2, 4, 5):
            self.refused(SizeError, (many,), Net, 3, CABLES, [1] * many)
        self.refused(SizeError, (1,), Net, 2, [], [1])

    def test_lots_are_looked_at(self):
        net = Net(3, CABLES, [1, 1, 1])
        for call in (net.over, net.words):
            self.refused(ThingError, (4,), call, [0, 4, -1])
            self.refused(ThingError, (-1,), call, (-1, 4))
            self.refused(SizeError, (61,), call, [9] * 61)
