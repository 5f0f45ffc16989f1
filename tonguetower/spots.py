"""The parts of a function's body, each with what is in sight there."""

from tonguetower.heads import heads_of
from tonguetower.tongues import form_of
from tonguetower.uses import names_made, terms_opened


class Spot:
    """A part of a body: its number, its kind, and from the names in sight to (kind, binder)."""

    def __init__(self, at, term, kind, scope):
        self.at = at
        self.term = term
        self.kind = kind
        self.scope = scope

    def known(self):
        """The names in sight, each with its kind."""
        return [(name, kind) for name, (kind, _) in self.scope.items()]

    def binder(self):
        """The binder of the name that the part is, or None where it is none."""
        return self.scope[self.term[1]][1] if self.term[0] == "name" else None


def inner_scope(scope, made, opened, at):
    """What is in sight where a use, by its number, opens some of the names that it made."""
    if not opened:
        return scope
    numbers = {name: k for k, (name, _) in enumerate(made)}
    return {**scope, **{name: (kind, ("use", at, numbers[name])) for name, kind in opened.items()}}


def inner_rows(tower, heads, spot):
    """The terms that stand in a part, each with its kind and what is in sight."""
    term = spot.term
    if term[0] == "name":
        return []
    if term[0] == "call":
        return [(inner, kind, spot.scope) for inner, kind in zip(term[2], heads[term[1]][1])]
    form = form_of(tower, term[1], term[2])
    made = names_made(form, term[3])
    rows = terms_opened(form, term[3])
    return [(inner, kind, inner_scope(spot.scope, made, opened, spot.at)) for inner, kind, opened in rows]


def spots_in(tower, function):
    """The parts of the body of a function that could stand in a tower."""
    _, params, gives, body = function
    heads = heads_of(tower)
    found = []
    todo = [(body, gives, {name: (kind, ("param", k)) for k, (name, kind) in enumerate(params)})]
    while todo:
        term, kind, scope = todo.pop()
        spot = Spot(len(found), term, kind, scope)
        found.append(spot)
        todo.extend(inner_rows(tower, heads, spot)[::-1])
    return found
