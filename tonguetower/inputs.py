"""What a part of a tower is made of."""

from tonguetower.meanings import meaning_parts, meaning_sort, meaning_things
from tonguetower.terms import parts
from tonguetower.towers import face_of


def part_of(f):
    """The name of a function's part."""
    part, _, _ = f.partition(".")
    return part


def called_in_body(body):
    """The parts whose functions a body calls."""
    return [part_of(term[1]) for term in parts(body) if term[0] == "call"]


def called_in_meaning(meaning):
    """The parts whose functions a meaning calls."""
    return [part_of(part[1]) for part in meaning_parts(meaning) if part[0] == "call"]


def run_in_meaning(meaning):
    """The parts whose functions a meaning runs at making."""
    todo = [thing for part in meaning_parts(meaning) for thing in meaning_things(part) if meaning_sort(thing) == "lit"]
    found = []
    while todo:
        number = todo.pop()
        if isinstance(number, tuple) and number[0] == "made":
            found.append(part_of(number[1]))
            todo.extend(number[2])
    return found


class Inputs:
    """Gathers the inputs of a part of a tower: names of items that are needed whole, and of others by their faces."""

    def __init__(self, tower):
        self.named = {item[1]: item for item in tower}
        self.whole = {}
        self.faces = {}

    def tongues_of(self, item):
        """The tongue of a part or a face, and all beneath it, but for the ground."""
        found = []
        name = item[2]
        while name != "ground":
            found.append(self.named[name])
            name = self.named[name][2]
        return found

    def meanings_of(self, item):
        """The meanings of the tongues of a part or a face."""
        return [form[3] for tongue in self.tongues_of(item) for form in tongue[6]]

    def calls_of(self, item):
        """The parts that a part calls, or a meaning of its tongues; a face calls none by itself."""
        bodies = [function[3] for function in item[3]] if item[0] == "part" else []
        found = [name for body in bodies for name in called_in_body(body)]
        return [*found, *[name for meaning in self.meanings_of(item) for name in called_in_meaning(meaning)]]

    def runs_of(self, item):
        """The parts that a meaning of the tongues of a part or a face runs at making."""
        return [name for meaning in self.meanings_of(item) for name in run_in_meaning(meaning)]

    def need_itself(self, item):
        """Needs a part or a face as it stands, and its tongues."""
        self.whole[item[1]] = True
        for tongue in self.tongues_of(item):
            self.whole[tongue[1]] = True

    def need_made(self, item):
        """Needs what a part is made of: what is called by its face, what runs at making whole."""
        self.need_itself(item)
        for name in self.calls_of(item):
            self.faces[name] = True
        self.need_run(self.runs_of(item))

    def need_run(self, names):
        """Needs some parts and faces whole, with all that a run of their functions may come to."""
        todo = list(names)
        done = {}
        while todo:
            name = todo.pop()
            if name not in done:
                done[name] = True
                self.need_itself(self.named[name])
                todo.extend([*self.calls_of(self.named[name]), *self.runs_of(self.named[name])])


def seen_of(item):
    """What others see of an item: of a part its face."""
    return face_of(item) if item[0] == "part" else item


def inputs_of(tower, part):
    """The inputs of a part of a tower, in the tower's order: (item, whether it is needed whole)."""
    inputs = Inputs(tower)
    inputs.need_made(part)
    rows = [(item, item[1] in inputs.whole) for item in tower]
    return [(item, is_whole) for item, is_whole in rows if is_whole or item[1] in inputs.faces]
