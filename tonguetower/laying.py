"""Terms are laid down: use by use, one floor, or all."""

from tonguetower.errors import NoUse
from tonguetower.layers import Layer, lay_whole, term_of
from tonguetower.names import names_in
from tonguetower.terms import parts
from tonguetower.workshop import Workshop, lays_all

MAKING = 5000
PARTS = 3000


def shop_of(tower):
    """A workshop of a tower: what runs at making is laid down by PARTS, and takes at most MAKING turns."""
    return Workshop(tower, PARTS, MAKING)


def laid_by(tower, term, lays, most):
    """What a term comes to where the uses are laid down of which lays tells so."""
    layer = Layer(shop_of(tower), names_in(term), lays)
    return term_of(lay_whole(layer.begun(term), most))


def laid_use(tower, term, at):
    """A term with one use laid down, by its number."""
    found = parts(term)
    if not 0 <= at < len(found) or found[at][0] != "use" or found[at][1] == "ground":
        raise NoUse(at)
    return laid_by(tower, term, lambda node: node.written and node.at == at, PARTS)


def laid_floor(tower, tongue, term):
    """A term with all uses of a tongue laid down that are written in it."""
    return laid_by(tower, term, lambda node: node.written and lays_all(node) and node.tongue == tongue, PARTS)


def laid(tower, term, *, most=PARTS):
    """A term with all uses laid down, and what comes of them."""
    return laid_by(tower, term, lays_all, most)
