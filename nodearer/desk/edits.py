"""Edits of books and costs, and their inverses."""

from nodearer.errors import SizeError, WishError
from nodearer.looks import MOST_COST, look_costs, look_number, look_thing
from nodearer.wishes.books import Book, look_wish
from nodearer.wishes.wishes import Wish


def edited(book, costs, edit):
    """Return the book and the list of the costs after an edit."""
    look_costs(book.family.things, costs)
    word = edit[0]
    if word == "cost":
        return book, _costs_with(book.family.things, costs, edit[1], edit[2])
    if word == "family":
        return _book_with(book, edit[1]), list(costs)
    return Book(book.family, _wishes_after(book, edit)), list(costs)


def inverse(book, costs, edit):
    """Return the edit that brings the book and the costs back that are there before an edit."""
    edited(book, costs, edit)
    word = edit[0]
    if word == "cost":
        return "cost", edit[1], costs[edit[1]]
    if word == "most":
        return "most", edit[1], book.wishes[edit[1]].most
    if word == "least":
        return "least", edit[1], book.wishes[edit[1]].least
    if word == "wish":
        return "strike", edit[1]
    return ("family", book.family) if word == "family" else ("wish", edit[1], book.wishes[edit[1]])


def _costs_with(things, costs, thing, cost):
    look_thing(things, thing)
    look_number(cost, -MOST_COST, MOST_COST)
    return [cost if other == thing else old for other, old in enumerate(costs)]


def _book_with(book, family):
    if family.things != book.family.things:
        raise SizeError(family.things)
    return Book(family, book.wishes)


def _wishes_after(book, edit):
    """Return the list of the wishes after an edit that concerns one of them."""
    wishes = list(book.wishes)
    at = edit[1]
    if edit[0] == "wish":
        if at < 0 or at > len(wishes):
            raise WishError(at)
        return wishes[:at] + [edit[2]] + wishes[at:]
    look_wish(book, at)
    if edit[0] == "strike":
        return wishes[:at] + wishes[at + 1:]
    wish = wishes[at]
    if edit[0] == "most":
        wishes[at] = Wish(wish.weights, most=edit[2], least=wish.least)
    else:
        wishes[at] = Wish(wish.weights, most=wish.most, least=edit[2])
    return wishes
