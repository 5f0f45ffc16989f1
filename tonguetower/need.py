"""Functions are run by need: a use is laid down as it comes to be reckoned."""

from tonguetower.laying import shop_of
from tonguetower.machine import Run
from tonguetower.runs import MOST
from tonguetower.workshop import told_up


class Needed:
    """Tells functions' bodies, of which a part is laid down as it begins to be reckoned."""

    def __init__(self, shop):
        self.shop = shop
        self.bodies = {}

    def body(self, f):
        """A function's body, laid down as far as it was reckoned."""
        # What was laid down stays so: it would come to the same again, but for bound names.
        if f not in self.bodies:
            self.bodies[f] = self.shop.raw_body(f)
        return self.bodies[f]


def ran_by_need(tower, f, args, *, most=MOST):
    """What a function tells by its arguments, in how many turns, no more being laid down than is reckoned."""
    shop = shop_of(tower)
    run = Run(Needed(shop), most, {})
    told = run.told(f, args)
    return told_up(tower, shop.heads[f][0], told)
