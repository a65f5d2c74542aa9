"""The texts of books with costs."""

from nodearer.errors import TextError
from nodearer.looks import look_costs
from nodearer.texts.kinds import family_form, family_of, family_text
from nodearer.texts.lines import Reader, look_text
from nodearer.wishes.books import Book
from nodearer.wishes.wishes import Wish


def book_text(book, costs):
    """Return the text of a book with costs."""
    look_costs(book.family.things, costs)
    told = " ".join(["costs", *[str(cost) for cost in costs]])
    return "\n".join([f"family {family_text(book.family)}", told] + [str(wish) for wish in book.wishes])


def read_book(text):
    """Return the book and the list of the costs with this text."""
    look_text(text)
    lines = text.split("\n")
    readers = [Reader(line, at + 1) for at, line in enumerate(lines)]
    form = _read_family_line(readers[0])
    if len(lines) < 2:
        raise TextError(2, 1)
    readers[1].skip("costs")
    costs = readers[1].integers()
    told = [_read_wish_line(reader) for reader in readers[2:]]
    family = family_of(form)
    look_costs(family.things, costs)
    return Book(family, [Wish(weights, most=most, least=least) for weights, most, least in told]), costs


def _read_family_line(reader):
    reader.skip("family ")
    form = family_form(reader)
    reader.finish()
    return form


def _read_wish_line(reader):
    """Read the line of a wish; return its weights and its two numbers."""
    reader.skip("wish")
    weights = []
    most = None
    least = None
    while not (reader.is_over() or reader.follows(" m") or reader.follows(" l")):
        reader.skip(" ")
        weights.append(reader.integer())
    if reader.follows(" m"):
        reader.skip(" most ")
        most = reader.integer()
    if not reader.is_over():
        reader.skip(" least ")
        least = reader.integer()
    reader.finish()
    return weights, most, least
