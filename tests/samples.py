"""Terms, meanings and a tower that the tests share."""


def name(text):
    return ("name", text)


def call(f, *args):
    return ("call", f, args)


def use(tongue, head, *things):
    return ("use", tongue, head, things)


def ground(head, *things):
    return use("ground", head, *things)


def num(number):
    return ground("NUM", number)


def plus(one, other):
    return ground("+", one, other)


def let(text, one, other):
    return ground("LET", text, one, other)


def loop(many, text, one, other):
    return ground("LOOP", many, text, one, other)


def hole(at):
    return ("hole", at)


def own(at):
    return ("own", at)


def lit(at):
    return ("lit", at)


def turn(at):
    return ("turn", at)


def made(f, *some):
    return ("made", f, some)


def choose(number, *some):
    return ("choose", number, some)


def times(number, base, step):
    return ("times", number, base, step)


REST = ("rest",)

# What the document says of the ground's forms: how many terms the heads have that have terms alone.
GROUND_TERMS = {"+": 2, "-": 2, "*": 2, "/": 2, "<": 2, "=": 2, "IF": 3, "NEED": 2}

# Each of TWO's terms opens other names: the first one name, the next both, none, the second. MARK has no terms.
DUO = (
    "tongue",
    "duo",
    "ground",
    (("n", "num"), ("b", "num")),
    ("dry", "odd"),
    ("odd", "dry"),
    (
        ("LIT", (("lit",),), "n", ground("NUM", lit(0))),
        ("ADD", (("term", "n", ()), ("sign", ","), ("term", "n", ())), "n", plus(hole(0), hole(1))),
        ("LESS", (("term", "n", ()), ("sign", "<"), ("term", "n", ())), "b", ground("<", hole(0), hole(1))),
        (
            "SET",
            (("name", "n"), ("sign", "="), ("term", "n", ()), ("sign", ";"), ("term", "n", (0,))),
            "n",
            let(own(0), hole(0), hole(1)),
        ),
        (
            "TWO",
            (
                ("name", "n"),
                ("term", "n", (0,)),
                ("name", "b"),
                ("term", "n", (0, 1)),
                ("term", "n", ()),
                ("term", "b", (1,)),
            ),
            "n",
            let(own(0), hole(2), let(own(1), hole(0), plus(hole(1), hole(3)))),
        ),
        ("MARK", (("name", "n"), ("sign", "="), ("lit",)), "n", let(own(0), num(lit(0)), name(own(0)))),
    ),
)

TRIO = (
    "tongue",
    "trio",
    "duo",
    (("m", "n"), ("t", "b")),
    ("gone", "bad"),
    ("bad", "gone"),
    (
        ("ONE", (), "m", use("duo", "LIT", 1)),
        ("IS", (("term", "m", ()), ("term", "m", ())), "t", use("duo", "LESS", hole(0), hole(1))),
    ),
)

QUAD = ("tongue", "quad", "trio", (("k", "m"), ("l", "t"), ("o", "m")), ("end",), ("end", "end"), ())

LIB = (
    "part",
    "lib",
    "ground",
    (
        ("zero", (), "num", num(0)),
        ("one", (("x", "num"),), "num", name("x")),
        ("two", (("x", "num"), ("y", "num")), "num", plus(name("x"), name("y"))),
    ),
)

MID = (
    "part",
    "mid",
    "duo",
    (
        ("inc", (("x", "n"),), "n", use("duo", "ADD", name("x"), use("duo", "LIT", 1))),
        ("is", (("x", "n"), ("y", "b")), "b", name("y")),
    ),
)

FAR = ("face", "far", "duo", (("off", ("b",), "n"), ("all", (), "b")))

TOWER = (DUO, TRIO, QUAD, LIB, MID, FAR)


def nested(many, inner, wrap):
    """A term around which others are wrapped, many times, by a function of the term and a number."""
    for at in range(many):
        inner = wrap(inner, at)
    return inner


def letters(at):
    """The name of a number: six letters, another one for each number."""
    text = ""
    for _ in range(6):
        text += "abcdefghijklmnopqrstuvwxyz"[at % 26]
        at //= 26
    return text
