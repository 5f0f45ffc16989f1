"""Parts are made: their functions laid down, each part of the ground with a mark that tells where it came from."""

from tonguetower.laying import PARTS, shop_of
from tonguetower.layers import term_of


def made_function(shop, part, function, most):
    """A part's function, laid down, and its marks."""
    name, params, _, _ = function
    _, pieces = shop.laid_body(f"{part[1]}.{name}", most)
    marks = [(piece.at, piece.meant, piece.begins) for piece in pieces]
    return (name, params, term_of(pieces), tuple(marks))


def made_by(shop, part, most):
    """A part, made by a workshop of a tower in which it stands."""
    functions = [made_function(shop, part, function, most) for function in part[3]]
    return ("made", part[1], part[2], tuple(functions))


def made_part(tower, name, *, most=PARTS):
    """A part of a tower, made; refused as the first of its functions that can't be laid down."""
    part = [item for item in tower if item[1] == name][0]
    return made_by(shop_of(tower), part, most)
