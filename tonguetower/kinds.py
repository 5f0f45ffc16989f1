"""Terms are looked at."""

from tonguetower.errors import NoTerm
from tonguetower.looks import Look, inner_dues, kind_word, name_word, shape_word
from tonguetower.terms import term_sort, things_in
from tonguetower.words import is_name


def wrong_word(look, part, scope, due):
    """The first word that is so of a part of a term, or the empty text."""
    if part[0] == "name":
        return name_word(part[1], scope, due)
    things = things_in(part)
    word = shape_word(look, part, [term_sort(thing) for thing in things])
    if word:
        return word
    if any(not 0 <= thing <= 999 for thing in things if isinstance(thing, int)):
        return "lit"
    names = [thing for thing in things if isinstance(thing, str)]
    if len(set(names)) < len(names) or not all(is_name(name) for name in names):
        return "bind"
    return kind_word(look, part, due)


def look_term(tower, tongue, known, kind, term):
    """True, or the first refusal, part by part, of a term in a tongue, by names known and the kind due."""
    look = Look(tower, tongue)
    at = 0
    todo = [(term, dict(known), kind)]
    while todo:
        part, scope, due = todo.pop()
        word = wrong_word(look, part, scope, due)
        if word:
            raise NoTerm(word, at)
        at += 1
        if part[0] != "name":
            todo.extend(inner_dues(look, part, scope)[::-1])
    return True
