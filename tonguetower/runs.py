"""Functions are run, laid down ahead of the run."""

from tonguetower.laying import shop_of
from tonguetower.machine import Run
from tonguetower.workshop import told_up

MOST = 20000


def ran(tower, f, args, *, most=MOST):
    """What a function tells by its arguments, in how many turns."""
    shop = shop_of(tower)
    shop.lay_linked(f)
    run = Run(shop, most, {})
    return told_up(tower, shop.heads[f][0], run.told(f, args))


def seen(tower, f, args, *, most=MOST):
    """A run by the written uses that begin, in order, each with the function that it stands in."""
    shop = shop_of(tower)
    shop.lay_linked(f)
    run = Run(shop, most, shop.written_beside(f))
    run.told(f, args)
    return run.seen
