"""Made parts are joined to programs, and these are run."""

from tonguetower.errors import NoFunction, Twice
from tonguetower.machine import Body, Run
from tonguetower.runs import MOST
from tonguetower.terms import parts, things_in
from tonguetower.workshop import told_up


class MadePiece:
    """A part of a made function's ground, as it is run: what it is, its things, and its mark."""

    def __init__(self, term, things, mark):
        self.raw = False
        self.shape = term[0]
        self.word = term[2] if term[0] == "use" else term[1]
        self.things = things
        self.at, self.meant, self.begins = mark


def made_body(function):
    """What is run of a made function."""
    _, params, ground, marks = function
    done = []
    for term, mark in reversed(list(zip(parts(ground), marks))):
        things = [done.pop() if isinstance(thing, tuple) else thing for thing in things_in(term)]
        done.append(MadePiece(term, things, mark))
    return Body([name for name, _ in params], done[0])


class Program:
    """A program's functions by their names, each with its tongue, as a run asks for their bodies."""

    def __init__(self, program):
        rows = [(part, function) for part in program[1] for function in part[3]]
        self.functions = {f"{part[1]}.{function[0]}": function for part, function in rows}
        self.tongues = {f"{part[1]}.{function[0]}": part[2] for part, function in rows}
        self.bodies = {}

    def calls(self, f):
        """The functions that a function's ground calls, as they stand."""
        if f not in self.functions:
            raise NoFunction(f)
        return [part[1] for part in parts(self.functions[f][2]) if part[0] == "call"]

    def linked(self, f):
        """A function and all that a run of it may call, as they are first come to; refused where one lacks."""
        found = {f: True}
        row = [f]
        while row:
            called = {call: True for g in row for call in self.calls(g)}
            row = [call for call in called if call not in found]
            found.update(called)
        return list(found)

    def body(self, f):
        """What is run of a function."""
        if f not in self.bodies:
            self.bodies[f] = made_body(self.functions[f])
        return self.bodies[f]


def joined(some):
    """A program of made parts, rising by their names."""
    parts_by_name = {}
    for part in some:
        if part[1] in parts_by_name:
            raise Twice(part[1])
        parts_by_name[part[1]] = part
    return ("program", tuple([parts_by_name[name] for name in sorted(parts_by_name)]))


def linked(program, f):
    """The functions that a run of one may call, this one first."""
    functions = Program(program)
    return functions.linked(f)


def ran_joined(tower, program, f, args, *, most=MOST):
    """What a program's function tells by its arguments, in how many turns; of the tower there are the tongues alone."""
    functions = Program(program)
    functions.linked(f)
    run = Run(functions, most, {})
    return told_up(tower, functions.tongues[f], run.told(f, args))
