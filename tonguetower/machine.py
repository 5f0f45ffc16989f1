"""Ground is reckoned, turn by turn, by a list of what is still to do."""

from tonguetower.errors import NoMaking, TooLong, Unmade

ROUND = 1000


class Body:
    """What is run of a function: its params' names, and the first part of its ground, ripe or raw."""

    def __init__(self, params, root):
        self.params = params
        self.root = root


class Run:
    """A run of functions whose bodies are told by a shop, in at most so many turns.

    What is reckoned is a row (action, part, names in sight with their numbers); worths are the numbers that wait;
    calls are the calls whose bodies are being reckoned, (function, part), the first one without a part. Seen are the
    written uses that begin in functions that are watched.
    """

    def __init__(self, shop, most, watched):
        self.shop = shop
        self.most = most
        self.watched = watched
        self.turns = 0
        self.todo = []
        self.worths = []
        self.calls = []
        self.fault = None
        self.seen = []

    def told(self, f, numbers):
        """What a function tells by its arguments, a fault as that of ground."""
        self.enter(f, None, numbers)
        while self.todo:
            action, part, sight = self.todo.pop()
            action(self, part, sight)
        if self.fault:
            return ("fault", *self.fault, self.turns)
        return ("told", self.worths[0], self.turns)

    def enter(self, f, part, numbers):
        """Begins a function's body; part is the call."""
        body = self.shop.body(f)
        self.calls.append((f, part))
        self.todo.append((leave, None, None))
        self.todo.append((begin, body.root, dict(zip(body.params, numbers))))

    def ripen(self, part):
        """Lays a raw part down; refused as of the function in which it stands."""
        try:
            part.ripen()
        except NoMaking as error:
            raise Unmade(self.calls[-1][0], error.at, error.why) from None

    def see(self, part):
        """Keeps which written uses begin at a part."""
        f = self.calls[-1][0]
        if f in self.watched:
            self.seen.extend([(f, at) for at in part.begins])

    def fail(self, fault, part):
        """Ends the run by a fault at a part, told where somebody wrote it."""
        f = self.calls[-1][0]
        at = part.at
        meant = [k for k, (_, call) in enumerate(self.calls) if call is not None and call.meant]
        if meant:
            f = self.calls[meant[0] - 1][0]
            at = self.calls[meant[0]][1].at
        self.fault = (fault, f, at)
        self.todo = []

    def later(self, rows):
        """Keeps rows that are to be reckoned one behind the other."""
        self.todo.extend(rows[::-1])


def leave(run, _part, _sight):
    """Ends a function's body."""
    run.calls.pop()


def begin_number(run, part, _sight):
    """NUM."""
    run.worths.append(part.things[0])


def begin_two(run, part, sight):
    """A head of two terms."""
    run.later([(begin, part.things[0], sight), (begin, part.things[1], sight), (end_two, part, sight)])


def end_two(run, part, _sight):
    """A head of two terms, both of them reckoned."""
    other = run.worths.pop()
    one = run.worths.pop()
    if part.word == "/" and other == 0:
        run.fail("nought", part)
    else:
        run.worths.append(two_told(part.word, one, other))


def two_told(head, one, other):
    """What a head of two terms tells by two numbers."""
    if head == "+":
        return (one + other) % ROUND
    if head == "-":
        return (one - other) % ROUND
    if head == "*":
        return one * other % ROUND
    if head == "/":
        return one // other
    return int(one < other if head == "<" else one == other)


def begin_if(run, part, sight):
    """IF."""
    run.later([(begin, part.things[0], sight), (end_if, part, sight)])


def end_if(run, part, sight):
    """IF, its first term reckoned."""
    at = 1 if run.worths.pop() != 0 else 2
    run.later([(begin, part.things[at], sight)])


def begin_need(run, part, sight):
    """NEED."""
    run.later([(begin, part.things[0], sight), (end_need, part, sight)])


def end_need(run, part, sight):
    """NEED, its first term reckoned."""
    if run.worths.pop() == 0:
        run.fail("need", part)
    else:
        run.later([(begin, part.things[1], sight)])


def begin_let(run, part, sight):
    """LET."""
    run.later([(begin, part.things[1], sight), (end_let, part, sight)])


def end_let(run, part, sight):
    """LET, its first term reckoned."""
    run.later([(begin, part.things[2], {**sight, part.things[0]: run.worths.pop()})])


def begin_loop(run, part, sight):
    """LOOP."""
    run.later([(begin, part.things[0], sight), (begin, part.things[2], sight), (turn_loop, part, (sight, None))])


def turn_loop(run, part, around):
    """LOOP, its name's next number reckoned; around is what is in sight, and how many turns are left, once known."""
    sight, left = around
    number = run.worths.pop()
    if left is None:
        left = run.worths.pop()
    if left == 0:
        run.worths.append(number)
    else:
        run.later([(begin, part.things[3], {**sight, part.things[1]: number}), (turn_loop, part, (sight, left - 1))])


def begin_call(run, part, sight):
    """A call."""
    run.later([*[(begin, inner, sight) for inner in part.things], (end_call, part, sight)])


def end_call(run, part, _sight):
    """A call, its arguments reckoned."""
    numbers = [run.worths.pop() for _ in part.things]
    run.enter(part.word, part, numbers[::-1])


BEGINS = {
    "NUM": begin_number,
    "+": begin_two,
    "-": begin_two,
    "*": begin_two,
    "/": begin_two,
    "<": begin_two,
    "=": begin_two,
    "IF": begin_if,
    "NEED": begin_need,
    "LET": begin_let,
    "LOOP": begin_loop,
}


def begin(run, part, sight):
    """Any part begins."""
    if part.raw:
        run.ripen(part)
    if part.begins and run.watched:
        run.see(part)
    if part.shape == "name":
        run.worths.append(sight[part.word])
        return
    run.turns += 1
    if run.turns > run.most:
        raise TooLong(run.most)
    if part.shape == "call":
        begin_call(run, part, sight)
        return
    action = BEGINS[part.word]
    action(run, part, sight)
