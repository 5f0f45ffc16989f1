"""What may come next in the text of a term, and how it may end."""

from tonguetower.errors import NoText
from tonguetower.reading import Reading


def begun(tower, tongue, known, kind, words):
    """The reading of a beginning; refused where no text begins so."""
    reading = Reading(tower, tongue, known, kind)
    for at, word in enumerate(words):
        if not reading.take(word):
            raise NoText(at, reading.coming())
    return reading


def next_words(tower, tongue, known, kind, words):
    """All that may come next behind a beginning, rising; nothing where it is whole."""
    reading = begun(tower, tongue, known, kind, words)
    return reading.coming()


def is_filled(tower, tongue, known, kind):
    """Whether there is a term of a kind at all."""
    reading = Reading(tower, tongue, known, kind)
    return reading.coming() != ()


def whole_text(tower, tongue, known, kind, words):
    """A whole text that begins so, or None where nothing begins and there is no term at all."""
    reading = begun(tower, tongue, known, kind, words)
    if len(words) == 0 and reading.coming() == ():
        return None
    return " ".join([*words, *reading.fill()])
