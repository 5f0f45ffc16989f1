"""Items as texts."""

from tonguetower.texts import term_text, text_by, written_use

BEGINS = {"hole": "$", "own": "@", "lit": "#", "turn": "~"}


def written_of(ahead, thing):
    """What is written of a thing in a meaning, in order: words, and the things in it."""
    word = thing[0]
    if word == "use":
        return written_use(ahead, thing)
    if word == "call":
        return [thing[1], *thing[2]]
    if word == "choose":
        return [":choose", thing[1], str(len(thing[2])), *thing[2]]
    if word == "times":
        return [":times", *thing[1:]]
    if word == "rest":
        return [":rest"]
    if word == "made":
        return [f"!{thing[1]}", *thing[2]]
    return [thing[1]] if word == "name" else [f"{BEGINS[word]}{thing[1]}"]


def meaning_text(ahead, meaning):
    """A meaning's text, words parted by one blank."""
    return text_by(written_of, ahead, meaning)


def item_word(item):
    """The word of a form's item."""
    if item[0] == "sign":
        return f"'{item[1]}"
    if item[0] == "lit":
        return "#"
    if item[0] == "name":
        return f"@{item[1]}"
    opens = ",".join([str(k) for k in item[2]])
    return f"{item[1]}:{opens}" if opens else item[1]


def form_rows(ahead, form):
    """The rows of a form."""
    head, items, kind, meaning = form
    words = ["form", head, *[item_word(item) for item in items], "to", kind]
    return [" ".join(words), f"means {meaning_text(ahead, meaning)}"]


def tongue_rows(ahead, tongue):
    """The rows of a tongue."""
    _, name, below, kinds, faults, tells, forms = tongue
    rows = [f"tongue {name} on {below}"]
    rows.extend([f"kind {kind} is {meaning}" for kind, meaning in kinds])
    rows.extend([f"fault {fault}" for fault in faults])
    rows.append(" ".join(["tells", *tells]))
    return [*rows, *[row for form in forms for row in form_rows(ahead, form)]]


def function_row(ahead, function):
    """The row of a part's function."""
    name, params, kind, body = function
    words = ["def", name, *[word for param in params for word in param], "to", kind, "=", term_text(ahead, body)]
    return " ".join(words)


def head_row(head):
    """The row of a face's head."""
    name, kinds, kind = head
    return " ".join(["def", name, *kinds, "to", kind])


def item_text(ahead, item):
    """An item's text, rows parted by line feeds."""
    if item[0] == "tongue":
        rows = tongue_rows(ahead, item)
    elif item[0] == "part":
        rows = [f"part {item[1]} in {item[2]}", *[function_row(ahead, function) for function in item[3]]]
    else:
        rows = [f"face {item[1]} in {item[2]}", *[head_row(head) for head in item[3]]]
    return "\n".join(rows)
