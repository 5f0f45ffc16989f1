"""Terms are read from texts."""

from tonguetower.coming import begun
from tonguetower.errors import NoText


def read_term(tower, tongue, known, kind, text):
    """The term of a text in a tongue, by names known and the kind due."""
    words = text.split(" ")
    reading = begun(tower, tongue, known, kind, words)
    if reading.item() is not None:
        raise NoText(len(words), reading.coming())
    return reading.term()
