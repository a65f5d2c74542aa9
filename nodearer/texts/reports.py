"""Reports: the wishes of a book and what an answer makes of them, a line for each."""

from nodearer.exact.ratios import ratio_of, scaled
from nodearer.looks import look_costs, look_size


def report(book, costs, answer):
    """Return the list of the lines of the report."""
    look_costs(book.family.things, costs)
    look_size(len(answer.prices), len(book.wishes), len(book.wishes))
    lines = []
    for at, (wish, price) in enumerate(zip(book.wishes, answer.prices)):
        mean, count = _counts(wish, answer)
        wanted = _wanted(wish)
        lines.append(f"{at:>2} {mean:>10} {wanted:<12} {count:>4} {str(price)}")
    return lines


def _counts(wish, answer):
    """Return the texts of the mean count under the mixture of an answer and of the count of its plan."""
    if answer.KIND == "refusal":
        return "-", "-"
    parts, whole = scaled(answer.mixture.shares)
    return str(ratio_of(wish.total_of(parts), whole)), str(wish.count_of(answer.plan))


def _wanted(wish):
    """Return the text of the wanted numbers."""
    if wish.least is None:
        return f"<= {wish.most}"
    return f">= {wish.least}" if wish.most is None else f"{wish.least} .. {wish.most}"
