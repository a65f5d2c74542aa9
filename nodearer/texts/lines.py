"""Reading the lines of texts.

A line is read from its beginning, and whatever is read could go on to a right line. So the first character that
cannot stand where it stands, or the end of a line that is too short, is where the text is wrong.
"""

from nodearer.errors import TextError
from nodearer.exact.scan import integer_at, ratio_at
from nodearer.looks import look_size

_MOST_CHARACTERS = 20000
_MOST_DEPTH = 60


class Reader:
    """A line of a text, and the place up to which it has been read."""

    def __init__(self, text, line):
        self.text = text
        self.line = line
        self.at = 0
        self.depth = 0

    def follows(self, word):
        """Tell whether these characters come next."""
        return self.text[self.at:self.at + len(word)] == word

    def is_over(self):
        """Tell whether nothing comes next."""
        return self.at == len(self.text)

    def finish(self):
        """Refuse whatever comes next."""
        if not self.is_over():
            raise TextError(self.line, self.at + 1)

    def skip(self, word):
        """Read these characters."""
        for character in word:
            if not self.follows(character):
                raise TextError(self.line, self.at + 1)
            self.at += 1

    def one_of(self, words):
        """Read one of several words, none of which is the beginning of another one."""
        word = ""
        while word not in words:
            more = self.text[self.at:self.at + 1]
            if not more or not [other for other in words if other.startswith(word + more)]:
                raise TextError(self.line, self.at + 1)
            word = word + more
            self.at += 1
        return word

    def integer(self, most=7):
        """Read a number with at most so many digits."""
        told, self.at = integer_at(self.text, self.at, self.line, most)
        return told

    def integers(self):
        """Read numbers, each one behind a space, up to the end of the line."""
        told = []
        while not self.is_over():
            self.skip(" ")
            told.append(self.integer())
        return told

    def fraction(self):
        """Read the text of a ratio; return its numerator and its denominator, which need not be in bounds."""
        num, den, self.at = ratio_at(self.text, self.at, self.line)
        return num, den

    def begin(self):
        """Read an opening bracket."""
        if self.depth == _MOST_DEPTH:
            raise TextError(self.line, self.at + 1)
        self.skip("(")
        self.depth += 1

    def close(self):
        """Read a closing bracket."""
        self.skip(")")
        self.depth -= 1


def look_text(text):
    """Refuse a text that is too long."""
    look_size(len(text), 0, _MOST_CHARACTERS)


def readers_of(text):
    """Return a reader for each line of a text, none if it is empty."""
    if not text:
        return []
    return [Reader(line, at + 1) for at, line in enumerate(text.split("\n"))]
