"""Terms, their parts, and how deep they are."""


def things_in(term):
    """What stands in a term: numbers, names and terms; in a name nothing."""
    if term[0] == "name":
        return ()
    return term[2] if term[0] == "call" else term[3]


def term_sort(thing):
    """Of which sort a thing in a term is: term, name, lit, or the empty text of none."""
    if isinstance(thing, tuple):
        return "term"
    if isinstance(thing, str):
        return "name"
    return "lit" if isinstance(thing, int) and not isinstance(thing, bool) else ""


def terms_in(term):
    """The terms that stand in a term, but for those within them."""
    return [thing for thing in things_in(term) if isinstance(thing, tuple)]


def parts(term):
    """A term and all terms in it, as they stand."""
    found = []
    todo = [term]
    while todo:
        part = todo.pop()
        found.append(part)
        todo.extend(terms_in(part)[::-1])
    return found


def deep(term):
    """How deep a term is: 0 without terms in it."""
    floors = 0
    row = terms_in(term)
    while row:
        floors += 1
        row = [inner for part in row for inner in terms_in(part)]
    return floors
