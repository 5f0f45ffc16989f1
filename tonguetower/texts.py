"""Terms as texts."""

from tonguetower.tongues import form_of


def written_use(tower, use):
    """What is written of a use of a form, in a term or a meaning, in order: words, and the things in it."""
    left = list(use[3][::-1])
    items = form_of(tower, use[1], use[2])[1]
    return [use[2], *[item[1] if item[0] == "sign" else left.pop() for item in items]]


def written_in(tower, term):
    """What is written of a term, in order: words, numbers, and the terms in it."""
    if term[0] == "name":
        return [term[1]]
    return [term[1], *term[2]] if term[0] == "call" else written_use(tower, term)


def text_by(written, tower, whole):
    """The text of a term or a meaning, by a function that tells what is written of one."""
    words = []
    todo = [whole]
    while todo:
        thing = todo.pop()
        if isinstance(thing, tuple):
            todo.extend(written(tower, thing)[::-1])
        else:
            words.append(str(thing))
    return " ".join(words)


def term_text(tower, term):
    """A term's text, words parted by one blank."""
    return text_by(written_in, tower, term)
