"""Bound names of functions are exchanged for new ones."""

from tonguetower.errors import Clash, NoName
from tonguetower.rebuilding import rebuilt, with_names
from tonguetower.spots import spots_in
from tonguetower.terms import terms_in, things_in
from tonguetower.towers import function_of
from tonguetower.words import is_name


def renamed_part(spot, binder, new):
    """A part of a body, where a binder's name is a new one."""
    if spot.binder() == binder:
        return ("name", new)
    if binder[:2] != ("use", spot.at):
        return spot.term
    names = [thing for thing in things_in(spot.term) if isinstance(thing, str)]
    return with_names(spot.term, {names[binder[2]]: new})


def with_new_name(function, spots, binder, new):
    """A function in which a binder's name, and all names bound by it, are a new one."""
    name, params, kind, _ = function
    if binder[0] == "param":
        params = tuple([(new if k == binder[1] else x, due) for k, (x, due) in enumerate(params)])
    shells = [(renamed_part(spot, binder, new), len(terms_in(spot.term))) for spot in spots]
    return (name, params, kind, rebuilt(shells))


def has_two_alike(names):
    """Whether two of some names are alike."""
    return len(set(names)) < len(names)


def is_clash(spot, renamed_spot):
    """Whether a part of a body can't stand there renamed: it makes one name twice, or is bound otherwise."""
    term = renamed_spot.term
    if term[0] == "name":
        return spot.binder() != renamed_spot.binder()
    return has_two_alike([thing for thing in things_in(term) if isinstance(thing, str)])


def renamed(tower, f, binder, new):
    """A function in which a binder's name is a new one; refused where a name would be bound otherwise."""
    if not is_name(new):
        raise NoName(new)
    function = function_of(tower, f)
    spots = spots_in(tower, function)
    told = with_new_name(function, spots, binder, new)
    if has_two_alike([name for name, _ in told[1]]):
        raise Clash(-1)
    for spot, renamed_spot in zip(spots, spots_in(tower, told)):
        if is_clash(spot, renamed_spot):
            raise Clash(spot.at)
    return told
