"""Small towers of the forms that a test hands in."""

from tests.samples import call, ground, let, loop, name, num, plus

NUM = (("x", "num"),)
TWO = (("x", "num"), ("y", "num"))


def term(*opens):
    """A term of the kind n that opens some names."""
    return ("term", "n", opens)


LIT = ("lit",)
NAME = ("name", "n")


def tongue(*forms, called="t", below="ground", meaning="num", faults=("bad", "worse"), tells=("bad", "worse")):
    """A tongue of one kind, n."""
    return ("tongue", called, below, (("n", meaning),), faults, tells, forms)


def form(head, items, meaning):
    return (head, tuple(items), "n", meaning)


def part(called, tongue_of, *functions):
    return ("part", called, tongue_of, functions)


def function(called, params, body, kind="n"):
    return (called, params, kind, body)


def slow(inner):
    """Takes 2 + x * (2 + y) turns where inner takes one."""
    return loop(name("x"), "a", num(1), loop(name("y"), "b", num(1), inner))


# low.same x; low.div 10 / x; low.want NEED x x; low.slow as slow; low.slower one turn more; low.sum x + y.
LOW = part(
    "low",
    "ground",
    function("same", NUM, name("x"), "num"),
    function("div", NUM, ground("/", num(10), name("x")), "num"),
    function("want", NUM, ground("NEED", name("x"), name("x")), "num"),
    function("sum", TWO, plus(name("x"), name("y")), "num"),
)
LAG = part(
    "lag",
    "ground",
    function("slow", TWO, slow(num(1)), "num"),
    function("slower", TWO, let("c", name("x"), slow(num(1))), "num"),
    function("far", NUM, plus(num(1), call("low.div", name("x"))), "num"),
)
FAR = ("face", "far", "ground", (("one", ("num",), "num"),))
