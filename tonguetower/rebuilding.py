"""Terms made anew of their parts."""


def with_names(term, exchanged):
    """A use or a call, with some of the names that it makes exchanged for others."""
    if not exchanged:
        return term
    things = [exchanged.get(thing, thing) if isinstance(thing, str) else thing for thing in term[3]]
    return ("use", term[1], term[2], tuple(things))


def with_terms(term, inner):
    """A use or a call, with other terms in the place of those in it."""
    if term[0] == "call":
        return ("call", term[1], tuple(inner))
    left = inner[::-1]
    things = [left.pop() if isinstance(thing, tuple) else thing for thing in term[3]]
    return ("use", term[1], term[2], tuple(things))


def rebuilt(shells):
    """The term that shells make, as they stand: each (a part, how many terms of those behind it are put in it)."""
    done = []
    for shell, many in reversed(shells):
        inner = [done.pop() for _ in range(many)]
        done.append(with_terms(shell, inner) if many else shell)
    return done[0]
