"""Terms that are laid down: each part knows where it came from."""

from tonguetower.terms import things_in


class Node:
    """A part of a term: a name, a call or a use; its things are numbers, names, nodes and nodes with other names.

    at is the number of a written part, else of the written use in whose laying down the part came.
    """

    def __init__(self, shape, tongue, word, at, written):
        self.shape = shape
        self.tongue = tongue
        self.word = word
        self.at = at
        self.written = written
        self.things = []


class Renamed:
    """A node in which free names give way to other names."""

    def __init__(self, node, ways):
        self.node = node
        self.ways = ways


def written_nodes(term):
    """A written term, of nodes."""
    root = []
    at = 0
    todo = [(term, root)]
    while todo:
        thing, target = todo.pop()
        if isinstance(thing, tuple):
            tongue, word = thing[1:3] if thing[0] == "use" else ("", thing[1])
            node = Node(thing[0], tongue, word, at, True)
            at += 1
            todo.extend([(inner, node.things) for inner in things_in(thing)[::-1]])
            thing = node
        target.append(thing)
    return root[0]


def ways_through(ways, around):
    """The ways of a node within another one that has ways around it."""
    through = {name: around.get(other, other) for name, other in ways.items()}
    return {**around, **through}
