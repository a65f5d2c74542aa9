"""The texts of families."""

from nodearer.errors import TextError
from nodearer.families.built import Both, Short
from nodearer.families.counts import Choice, Groups
from nodearer.families.rooms import Rooms
from nodearer.families.seats import Seats
from nodearer.families.told import Told
from nodearer.families.turned import Minor, Mirror
from nodearer.families.vectors import Vectors
from nodearer.families.webs import Web
from nodearer.texts.lines import Reader, look_text

# The parts of the text of each family: numbers, lists of numbers, lists of lists, rooms and families.
_FORMS = {
    "choice": ("number", "number"),
    "groups": ("list", "list"),
    "rooms": ("number", "rooms"),
    "web": ("number", "lists"),
    "vectors": ("lists", "number"),
    "seats": ("number", "lists"),
    "told": ("number", "lists"),
    "both": ("family", "family"),
    "short": ("family", "number"),
    "mirror": ("family",),
    "minor": ("family", "list", "list"),
}


def family_text(family):
    """Return the text of a family."""
    word, parts = _told_kind(family) or _told_built(family)
    return _bracket([word] + [_part_text(part) for part in parts])


def read_family(text):
    """Return the family with this text."""
    look_text(text)
    lines = text.split("\n")
    reader = Reader(lines[0], 1)
    form = family_form(reader)
    reader.finish()
    if len(lines) > 1:
        raise TextError(2, 1)
    return family_of(form)


def family_form(reader):
    """Read the text of a family; return a tuple of its word and its parts, with such tuples for inner families."""
    reader.begin()
    word = reader.one_of(list(_FORMS))
    parts = []
    for kind in _FORMS[word]:
        reader.skip(" ")
        parts.append(_read_part(reader, kind))
    reader.close()
    return word, parts


def family_of(form):
    """Make the family of a form that has been read, the inner families first."""
    word, parts = form
    if word == "both":
        first = family_of(parts[0])
        return Both(first, family_of(parts[1]))
    if word == "short":
        return Short(family_of(parts[0]), parts[1])
    if word == "mirror":
        return Mirror(family_of(parts[0]))
    if word == "minor":
        return Minor(family_of(parts[0]), parts[1], parts[2])
    return _made_kind(word, parts[0], parts[1])


def _made_kind(word, first, second):
    if word == "choice":
        return Choice(first, second)
    if word == "groups":
        return Groups(first, second)
    if word == "rooms":
        return Rooms(first, second)
    if word == "web":
        return Web(first, second)
    if word == "vectors":
        return Vectors(first, second)
    return Seats(first, second) if word == "seats" else Told(first, second)


def _told_kind(family):
    """Return the word and the parts of a family of one of the seven kinds, None for another one."""
    if isinstance(family, Choice):
        return "choice", [family.things, family.take]
    if isinstance(family, Groups):
        return "groups", [family.groups, family.takes]
    if isinstance(family, Rooms):
        return "rooms", [family.things, family.rooms]
    if isinstance(family, Web):
        return "web", [family.places, family.ties]
    if isinstance(family, Vectors):
        return "vectors", [family.rows, family.prime]
    if isinstance(family, Seats):
        return "seats", [family.seats, family.fits]
    return ("told", [family.things, family.lots]) if isinstance(family, Told) else None


def _told_built(family):
    """Return the word and the parts of a family that is built of others."""
    if isinstance(family, Both):
        return "both", [family.first, family.second]
    if isinstance(family, Short):
        return "short", [family.family, family.take]
    if isinstance(family, Mirror):
        return "mirror", [family.family]
    return "minor", [family.family, family.taken, family.left]


def _part_text(part):
    """Return the text of a number, of a tuple of parts or of a family."""
    if isinstance(part, int):
        return str(part)
    if isinstance(part, tuple):
        return _bracket([_part_text(entry) for entry in part])
    return family_text(part)


def _bracket(words):
    told = " ".join(words)
    return f"({told})"


def _read_part(reader, kind):
    if kind == "number":
        return reader.integer()
    if kind == "list":
        return _read_list(reader)
    if kind == "lists":
        return _read_several(reader, _read_list)
    return _read_several(reader, _read_room) if kind == "rooms" else family_form(reader)


def _read_several(reader, read):
    """Read a bracket with any number of entries, which a function reads."""
    reader.begin()
    entries = []
    while not reader.follows(")"):
        if entries:
            reader.skip(" ")
        entries.append(read(reader))
    reader.close()
    return entries


def _read_list(reader):
    return _read_several(reader, _read_number)


def _read_number(reader):
    return reader.integer()


def _read_room(reader):
    reader.begin()
    lot = _read_list(reader)
    reader.skip(" ")
    most = reader.integer()
    reader.close()
    return lot, most
