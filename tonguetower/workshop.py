"""What is kept of a tower while its terms are laid down and run."""

from tonguetower.errors import NoBody, NoMaking, TooBig, TooLong, Unmade
from tonguetower.heads import heads_of
from tonguetower.layers import Layer, lay_whole
from tonguetower.machine import Body, Run
from tonguetower.names import names_in
from tonguetower.tongues import GROUND, fault_up
from tonguetower.towers import function_of


def lays_all(node):
    """Whether a use is laid down where all are."""
    return node.tongue != "ground"


def told_up(tower, tongue, told):
    """What a run told, a fault of ground being told as one of a tongue."""
    if told[0] == "told":
        return told
    fault = fault_up(tower, told[1], "ground", tongue)
    return ("fault", fault, *told[2:])


class Workshop:
    """A tower's forms, its functions laid down by most parts, and what they told at making in at most so many turns."""

    def __init__(self, tower, most, turns):
        tongues = [GROUND, *[item for item in tower if item[0] == "tongue"]]
        self.tower = tower
        self.most = most
        self.turns = turns
        self.forms = {(tongue[1], form[0]): form for tongue in tongues for form in tongue[6]}
        self.heads = heads_of(tower)
        self.bodies = {}
        self.calls = {}
        self.linked = {}
        self.numbers = {}

    def form(self, tongue, head):
        """The form of a head in a tongue."""
        return self.forms[(tongue, head)]

    def raw_body(self, f):
        """A function's body, not yet laid down."""
        params, _, body = function_of(self.tower, f)[1:]
        names = [name for name, _ in params]
        layer = Layer(self, [*names, *names_in(body)], lays_all)
        return Body(names, layer.begun(body))

    def laid_body(self, f, most):
        """A function's body, laid down, and all its parts, as they stand, at most so many."""
        body = self.raw_body(f)
        try:
            return body, lay_whole(body.root, most)
        except NoMaking as error:
            raise Unmade(f, error.at, error.why) from None

    def lay(self, f):
        """Lays down a function, unless it has been."""
        if f in self.bodies:
            return
        body, pieces = self.laid_body(f, self.most)
        self.bodies[f] = body
        self.calls[f] = [piece.word for piece in pieces if piece.shape == "call"]

    def body(self, f):
        """A function's body, laid down."""
        return self.bodies[f]

    def lay_linked(self, f):
        """Lays down a function and all that its ground calls, each as it is first come to."""
        if f in self.linked:
            return
        found = {f: True}
        row = [f]
        while row:
            for g in row:
                self.lay(g)
            called = {call: True for g in row for call in self.calls[g]}
            row = [call for call in called if call not in found]
            found.update(called)
        self.linked[f] = True

    def written_beside(self, f):
        """All functions that are written in the tongue of one."""
        tongue = self.heads[f][0]
        return {g: True for g, head in self.heads.items() if head[0] == tongue}

    def number(self, f, numbers):
        """What a function tells at making by numbers: (a number, None), or (None, why there is none)."""
        if (f, numbers) not in self.numbers:
            self.numbers[(f, numbers)] = self.made_number(f, numbers)
        return self.numbers[(f, numbers)]

    def made_number(self, f, numbers):
        """What a function tells at making by numbers, as it is run."""
        run = Run(self, self.turns, {})
        try:
            self.lay_linked(f)
            told = told_up(self.tower, self.heads[f][0], run.told(f, numbers))
        except NoBody:
            return (None, ("face",))
        except (Unmade, TooBig):
            return (None, ("unmade",))
        except TooLong:
            return (None, ("long",))
        return (told[1], None) if told[0] == "told" else (None, told[:4])
