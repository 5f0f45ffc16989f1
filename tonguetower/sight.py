"""What an editor asks of the parts of a function's body."""

from tonguetower.coming import next_words
from tonguetower.heads import heads_of
from tonguetower.spots import spots_in
from tonguetower.towers import ahead_of, function_of


def spot_at(tower, f, at):
    """A part of a function's body, by its number."""
    return spots_in(tower, function_of(tower, f))[at]


def kind_at(tower, f, at):
    """The kind of a part."""
    spot = spot_at(tower, f, at)
    return spot.kind


def sight_at(tower, f, at):
    """The names in sight at a part, rising, each with its kind and its binder."""
    spot = spot_at(tower, f, at)
    return sorted([(name, kind, binder) for name, (kind, binder) in spot.scope.items()])


def binder_at(tower, f, at):
    """The binder of a part that is a name."""
    spot = spot_at(tower, f, at)
    return spot.binder()


def places_of(tower, f, binder):
    """The parts that are names bound by a binder."""
    return [spot.at for spot in spots_in(tower, function_of(tower, f)) if spot.binder() == binder]


def fits_at(tower, f, at):
    """All that may begin a term that could stand in a part's place."""
    spot = spot_at(tower, f, at)
    return next_words(ahead_of(tower, f), heads_of(tower)[f][0], spot.known(), spot.kind, ())
