"""Terms are laid down, part by part, from left to right."""

from tonguetower.errors import TooBig
from tonguetower.growing import Growth
from tonguetower.newnames import NewNames
from tonguetower.nodes import Renamed, ways_through, written_nodes
from tonguetower.rebuilding import rebuilt
from tonguetower.uses import terms_opened

DEEP = 40


class Piece:
    """A part of what a term comes to. While it is raw, node and ways are what it will be made of, by its layer.

    shape is name, call or use; at, meant and begins are marks: of which written use a use, or a call that a meaning
    made, came (else -1), whether it is such a call, and the written uses that begin here, outer ones first.
    """

    def __init__(self, layer, node, ways):
        self.layer = layer
        self.node = node
        self.ways = ways
        self.raw = True
        self.shape = ""
        self.tongue = ""
        self.word = ""
        self.things = []
        self.at = -1
        self.meant = False
        self.begins = ()

    def ripen(self):
        """Makes the part what it is, its inner ones staying raw; refused as its uses are laid down."""
        if self.raw:
            self.layer.ripen(self)

    def inner(self):
        """The parts that stand in this one."""
        return [thing for thing in self.things if isinstance(thing, Piece)]

    def shell(self):
        """The part as a term, with nothing in the place of those in it."""
        if self.shape == "name":
            return ("name", self.word)
        things = tuple([() if isinstance(thing, Piece) else thing for thing in self.things])
        return ("call", self.word, things) if self.shape == "call" else ("use", self.tongue, self.word, things)


class Layer:
    """Lays down uses of a term, by a shop that knows forms and made numbers.

    No new name is one that is taken; lays tells of a node that is a use whether it is laid down.
    """

    def __init__(self, shop, taken, lays):
        self.shop = shop
        self.fresh = NewNames(taken)
        self.lays = lays

    def begun(self, term):
        """The first part of what a written term comes to, raw."""
        return Piece(self, written_nodes(term), {})

    def ripen(self, piece):
        """Makes a raw part what it is: uses give way till there is one that isn't laid down, a call or a name."""
        node = piece.node
        ways = piece.ways
        begins = []
        while isinstance(node, Renamed) or node.shape == "use":
            if isinstance(node, Renamed):
                ways = ways_through(node.ways, ways)
                node = node.node
                continue
            if node.written:
                begins.append(node.at)
            lays = self.lays
            if not lays(node):
                break
            growth = Growth(self.shop, self.fresh, node)
            node = growth.grown()
        piece.begins = tuple(begins)
        self.settle(piece, node, ways)

    def settle(self, piece, node, ways):
        """Makes a raw part a node that isn't laid down, in which free names have ways."""
        piece.shape = node.shape
        piece.tongue = node.tongue
        piece.word = ways.get(node.word, node.word) if node.shape == "name" else node.word
        piece.meant = node.shape == "call" and not node.written
        if node.shape == "use" or piece.meant:
            piece.at = node.at
        inner = [Piece(self, thing, left) for thing, left in self.ways_in(node, ways)]
        left = inner[::-1]
        piece.things = [thing if isinstance(thing, (int, str)) else left.pop() for thing in node.things]
        piece.raw = False

    def ways_in(self, node, ways):
        """The nodes in a node, each with the ways that free names in it have."""
        if node.shape != "use":
            return [(thing, ways) for thing in node.things]
        found = []
        for thing, _, names in terms_opened(self.shop.form(node.tongue, node.word), node.things):
            hidden = any([name in ways for name in names])
            left = {name: other for name, other in ways.items() if name not in names} if hidden else ways
            found.append((thing, left))
        return found


def lay_whole(piece, most):
    """All parts of what a raw part comes to, as they stand; refused where they are too many, or too deep."""
    found = []
    todo = [(piece, 0)]
    while todo:
        part, floors = todo.pop()
        part.ripen()
        if len(found) == most or floors > DEEP:
            raise TooBig(most)
        found.append(part)
        todo.extend([(inner, floors + 1) for inner in part.inner()[::-1]])
    return found


def term_of(pieces):
    """The term that ripe parts are, all of them, as they stand."""
    return rebuilt([(piece.shell(), len(piece.inner())) for piece in pieces])
