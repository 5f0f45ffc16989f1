"""A tongue with kinds of which there is no term but by names in sight."""

from tests.samples import hole, let, num, own, plus

A = ("name", "a")
B = ("name", "b")
C = ("name", "c")


def term(kind, *opens):
    return ("term", kind, opens)


# Of kind b there are names alone; of kind c, too; W hides what it makes, so that a b may be lost.
KIN = (
    "tongue",
    "kin",
    "ground",
    (("a", "num"), ("b", "num"), ("c", "num"), ("d", "num")),
    ("bad",),
    ("bad", "bad"),
    (
        ("Z", (), "a", num(0)),
        ("W", (A, ("sign", "IN"), term("b", 0)), "a", let(own(0), num(1), hole(0))),
        ("V", (A, B, term("b", 0, 1)), "a", let(own(0), num(1), let(own(1), num(1), hole(0)))),
        ("U", (B, A, term("b", 0, 1)), "a", let(own(0), num(1), let(own(1), num(1), hole(0)))),
        ("T", (A, term("a", 0), term("b")), "a", let(own(0), hole(1), hole(0))),
        ("M", (C, term("c", 0)), "a", let(own(0), num(1), hole(0))),
        ("N", (term("c"),), "a", hole(0)),
        ("D", (term("d"), ("sign", ")")), "d", hole(0)),
        (
            "K",
            (B, A, term("b", 1), term("b", 0)),
            "a",
            let(own(0), num(1), let(own(1), num(1), plus(hole(0), hole(1)))),
        ),
        ("O", (A, ("lit",), term("a")), "a", hole(0)),
    ),
)
