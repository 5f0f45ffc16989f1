"""A desk: a maker that is told rows, and answers by texts."""

from tonguetower.coming import next_words
from tonguetower.errors import NoItem, NoRow
from tonguetower.heads import heads_of
from tonguetower.itemreader import read_item
from tonguetower.itemtexts import item_text
from tonguetower.laying import PARTS
from tonguetower.maker import Maker
from tonguetower.towers import ahead_of, function_of
from tonguetower.words import is_call, is_name, number_of


def ahead_of_place(tower, name):
    """The items ahead of the place that an item of a name takes."""
    names = [item[1] for item in tower]
    return tower[: names.index(name)] if name in names else tower


def many_made(made, f):
    """How many params a function has in made parts: a list of this number alone, or of none where it isn't there."""
    rows = [(f"{part[1]}.{function[0]}", function[1]) for part in made for function in part[3]]
    return [len(params) for name, params in rows if name == f]


def say_put(maker, words):
    """Puts the item of a text."""
    if not words:
        raise NoRow()
    text = " ".join(words).replace(" | ", "\n")
    # The name stands in the first row; where this one can't stand the text is refused anyway.
    name = words[1] if len(words) > 1 else ""
    item = read_item(ahead_of_place(maker.tower(), name), text)
    maker.put(item)
    return f"kept {item[1]}"


def say_drop(maker, words):
    """Drops the item of a name."""
    if len(words) != 1 or not is_name(words[0]):
        raise NoRow()
    maker.drop(words[0])
    return f"dropped {words[0]}"


def say_make(maker, words):
    """Makes what is stale."""
    if words:
        raise NoRow()
    names = maker.make()
    return " ".join(names) if names else "none"


def say_run(maker, words):
    """Runs a function by numbers."""
    numbers = [number_of(word) for word in words[1:]]
    if not words or not is_call(words[0]) or None in numbers:
        raise NoRow()
    f = words[0]
    heads = heads_of(maker.tower())
    due = [len(heads[f][1])] if f in heads else []
    if any([many != len(numbers) for many in [*due, *many_made(maker.made(), f)]]):
        raise NoRow()
    function_of(maker.tower(), f)
    told = maker.run(f, numbers)
    if told[0] == "told":
        return f"{told[1]} in {told[2]}"
    return f"{told[1]} at {told[2]} {told[3]} in {told[4]}"


def say_show(maker, words):
    """Tells the text of the item of a name."""
    if len(words) != 1 or not is_name(words[0]):
        raise NoRow()
    tower = maker.tower()
    ahead = ahead_of_place(tower, words[0])
    if len(ahead) == len(tower):
        raise NoItem(words[0])
    text = item_text(ahead, tower[len(ahead)])
    return text.replace("\n", " | ")


def say_next(maker, words):
    """Tells what may come next behind a beginning of a function's body."""
    if not words or not is_call(words[0]):
        raise NoRow()
    f, *beginning = words
    tower = maker.tower()
    _, params, kind, _ = function_of(tower, f)
    coming = next_words(ahead_of(tower, f), heads_of(tower)[f][0], params, kind, tuple(beginning))
    if coming:
        return " ".join(coming)
    return "whole" if beginning else "none"


SAYS = {"put": say_put, "drop": say_drop, "make": say_make, "run": say_run, "show": say_show, "next": say_next}


class Desk:
    """Keeps a maker, and does what rows tell it."""

    def __init__(self, *, most=PARTS):
        self._maker = Maker(most=most)

    def say(self, row):
        """What comes of a row."""
        word, *words = row.split(" ")
        if "\n" in row or word not in SAYS:
            raise NoRow()
        action = SAYS[word]
        return action(self._maker, words)
