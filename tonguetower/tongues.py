"""The ground, and what is told of a tower's tongues by their names."""

GROUND = (
    "tongue",
    "ground",
    "",
    (("num", ""),),
    ("nought", "need"),
    (),
    (
        ("NUM", (("lit",),), "num", None),
        ("+", (("term", "num", ()), ("term", "num", ())), "num", None),
        ("-", (("term", "num", ()), ("term", "num", ())), "num", None),
        ("*", (("term", "num", ()), ("term", "num", ())), "num", None),
        ("/", (("term", "num", ()), ("term", "num", ())), "num", None),
        ("<", (("term", "num", ()), ("term", "num", ())), "num", None),
        ("=", (("term", "num", ()), ("term", "num", ())), "num", None),
        ("IF", (("term", "num", ()), ("term", "num", ()), ("term", "num", ())), "num", None),
        ("NEED", (("term", "num", ()), ("term", "num", ())), "num", None),
        ("LET", (("name", "num"), ("term", "num", ()), ("term", "num", (0,))), "num", None),
        ("LOOP", (("term", "num", ()), ("name", "num"), ("term", "num", ()), ("term", "num", (0,))), "num", None),
    ),
)


def tongue_of(tower, name):
    """The tongue of a name: the ground's, or one of a tower."""
    if name == "ground":
        return GROUND
    return [item for item in tower if item[0] == "tongue" and item[1] == name][0]


def tongue_names(tower):
    """The names of all tongues that something may stand on, or be written in."""
    return ["ground", *[item[1] for item in tower if item[0] == "tongue"]]


def is_taken(tower, name):
    """Whether an item can't have a name, since the ground or another one has it."""
    return name == "ground" or name in [item[1] for item in tower]


def form_of(tower, tongue, head):
    """The form of a head in a tongue."""
    forms = tongue_of(tower, tongue)[6]
    return [form for form in forms if form[0] == head][0]


def kind_down(tower, tongue, kind, below):
    """The kind that a tongue's kind means in one beneath it, or itself in its own."""
    while tongue != below:
        here = tongue_of(tower, tongue)
        kind = dict(here[3])[kind]
        tongue = here[2]
    return kind


def fault_up(tower, fault, below, tongue):
    """As which fault a tongue's is told in one that stands on it, or itself in its own."""
    between = []
    while tongue != below:
        between.append(tongue_of(tower, tongue))
        tongue = between[-1][2]
    for here in reversed(between):
        beneath = tongue_of(tower, here[2])
        fault = here[5][beneath[4].index(fault)]
    return fault
