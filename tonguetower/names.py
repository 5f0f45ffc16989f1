"""The names of terms: which are free, what is put in their place, and which terms are alike."""

from tonguetower.newnames import NewNames
from tonguetower.rebuilding import rebuilt, with_names
from tonguetower.terms import parts, terms_in, things_in
from tonguetower.tongues import form_of
from tonguetower.uses import terms_opened


def opened(tower, term):
    """The terms in a term, each with a dict from the names that it opens."""
    if term[0] != "use":
        return [(inner, {}) for inner in terms_in(term)]
    form = form_of(tower, term[1], term[2])
    return [(inner, names) for inner, _, names in terms_opened(form, term[3])]


def free_names(tower, term):
    """The names that are free in a term, as they first stand."""
    found = {}
    todo = [(term, {})]
    while todo:
        part, bound = todo.pop()
        if part[0] == "name" and part[1] not in bound:
            found[part[1]] = True
        for inner, names in reversed(opened(tower, part)):
            todo.append((inner, {**bound, **names} if names else bound))
    return tuple(found)


def names_in(term):
    """All names that stand in a term, those that uses make, too."""
    rows = [part[1:] if part[0] == "name" else things_in(part) for part in parts(term)]
    return [thing for row in rows for thing in row if isinstance(thing, str)]


def ways_within(ways, names, exchanged):
    """What gives way to which terms where names are opened, some of them exchanged for others."""
    if not names:
        return ways
    left = {name: term for name, term in ways.items() if name not in names}
    for name in names:
        if name in exchanged:
            left[name] = ("name", exchanged[name])
    return left


def put_in(tower, term, some):
    """A term in which free names give way to terms, and no name of these is caught."""
    giving = {name: some[name] for name in free_names(tower, term) if name in some}
    catching = {name: True for put in giving.values() for name in free_names(tower, put)}
    fresh = NewNames(names_in(term) + list(catching))
    shells = []
    todo = [(term, giving)]
    while todo:
        part, ways = todo.pop()
        if part[0] == "name" or not ways:
            shells.append((ways.get(part[1], part) if part[0] == "name" else part, 0))
            continue
        made = [thing for thing in things_in(part) if isinstance(thing, str) and thing in catching]
        exchanged = {name: fresh.told() for name in made}
        inner = opened(tower, part)
        shells.append((with_names(part, exchanged), len(inner)))
        for within, names in reversed(inner):
            todo.append((within, ways_within(ways, names, exchanged)))
    return rebuilt(shells)


def shell_of(term, marks):
    """What of a term must be the same in one alike, but for the terms in it."""
    if term[0] == "name":
        return ("name", marks.get(term[1], term[1]))
    if term[0] == "call":
        return ("call", term[1], len(term[2]))
    return (*term[:3], *[thing for thing in term[3] if isinstance(thing, int)])


def marked(marks, names, first):
    """Marks where names are opened: numbers from first on are theirs."""
    return {**marks, **{name: first + k for k, name in enumerate(names)}} if names else marks


def are_alike(tower, one, other):
    """Whether two terms are the same but for the names that uses make, and what is bound by them."""
    many = 0
    todo = [(one, other, {}, {})]
    while todo:
        part, twin, marks, twins_marks = todo.pop()
        if shell_of(part, marks) != shell_of(twin, twins_marks):
            return False
        # What is bound by uses in the same place has the same mark, a number that nothing else has.
        for (inner, names), (twins_inner, twins_names) in zip(opened(tower, part), opened(tower, twin)):
            row = (inner, twins_inner, marked(marks, names, many), marked(twins_marks, twins_names, many))
            todo.append(row)
            many += len(names)
    return True
