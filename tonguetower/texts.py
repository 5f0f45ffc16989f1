"""Terms as texts."""

from tonguetower.tongues import form_of


def written_in(tower, term):
    """What is written of a term, in order: words, numbers, and the terms in it."""
    if term[0] == "name":
        return [term[1]]
    if term[0] == "call":
        return [term[1], *term[2]]
    left = list(term[3][::-1])
    items = form_of(tower, term[1], term[2])[1]
    return [term[2], *[item[1] if item[0] == "sign" else left.pop() for item in items]]


def term_text(tower, term):
    """A term's text, words parted by one blank."""
    words = []
    todo = [term]
    while todo:
        thing = todo.pop()
        if isinstance(thing, tuple):
            todo.extend(written_in(tower, thing)[::-1])
        else:
            words.append(str(thing))
    return " ".join(words)
