"""Meanings and their parts."""

from tonguetower.terms import term_sort

NUMBERS = ("lit", "turn", "made")


def meaning_sort(thing):
    """Of which sort a thing in a meaning is: term (a meaning), name, lit (what stands for a number), or none."""
    if isinstance(thing, tuple) and thing[0] in NUMBERS:
        return "lit"
    if isinstance(thing, tuple) and thing[0] == "own":
        return "name"
    return term_sort(thing)


def meaning_things(meaning):
    """What stands in a meaning: numbers, names and meanings; in a hole, a name and a rest nothing."""
    if meaning[0] == "use":
        return meaning[3]
    if meaning[0] == "call":
        return meaning[2]
    if meaning[0] == "choose":
        return (meaning[1], *meaning[2])
    return meaning[1:] if meaning[0] == "times" else ()


def meaning_parts(meaning):
    """A meaning and all meanings in it, as they stand."""
    found = []
    todo = [meaning]
    while todo:
        part = todo.pop()
        found.append(part)
        todo.extend([thing for thing in meaning_things(part)[::-1] if meaning_sort(thing) == "term"])
    return found
