"""What the document says of what is in sight in a body, done plainly by calls: not of deep terms."""

from tonguetower.tongues import form_of


def plain_rows(tower, tongue, function):
    """Of each part of a body the term, its kind, and what is in sight, done plainly by calls."""
    heads = {}
    for item in tower:
        if item[0] != "tongue":
            for one in item[3]:
                kinds = one[1] if item[0] == "face" else [kind for _, kind in one[1]]
                heads[f"{item[1]}.{one[0]}"] = kinds
    rows = []

    def go(term, kind, sight):
        at = len(rows)
        rows.append((term, kind, sight))
        if term[0] == "call":
            for inner, due in zip(term[2], heads[term[1]]):
                go(inner, due, sight)
        if term[0] == "use":
            names = []
            items = [one for one in form_of(tower, term[1], term[2])[1] if one[0] != "sign"]
            for one, thing in zip(items, term[3]):
                if one[0] == "name":
                    names.append((thing, (one[1], ("use", at, len(names)))))
                if one[0] == "term":
                    go(thing, one[1], {**sight, **dict([names[k] for k in one[2]])})

    _, params, kind, body = function
    go(body, kind, {x: (due, ("param", k)) for k, (x, due) in enumerate(params)})
    return rows
