"""All bases that keep a book, and all that nearly do."""


def keepers(book):
    """Return the list of all bases that keep the book, in order."""
    return [lot for lot in book.family.bases() if book.keeps(lot)]


def near_bases(book):
    """Return the list of all near bases, in order."""
    return [lot for lot in book.family.bases() if book.is_near(lot)]
