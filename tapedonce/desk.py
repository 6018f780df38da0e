"""A desk: a hall that is led by lines, and answers in lines."""

from tapedonce.errors import BadCommand, Fault
from tapedonce.forms import is_name
from tapedonce.halls import Hall, do_line
from tapedonce.lines import NOTHING, line_of_plan, line_of_room, read_line, thing_told

DONE = "done"


def _undone(hall):
    hall.undo()
    return DONE


def _done_again(hall):
    hall.redo()
    return DONE


def _cells_told(hall):
    return _things_told(hall.setup.world.cells, hall.state[0][0])


def _rows_told(hall):
    return _things_told(hall.setup.world.rows, hall.state[0][1])


def _things_told(named, things):
    """Each name, and what stands under it now."""
    told = [thing_told(pair[0], thing) for pair, thing in zip(named, things)]
    return ", ".join(told) if told else NOTHING


def _astray_told(hall):
    told = [str(number) for number in hall.astray]
    return " ".join(told) if told else NOTHING


def _many_told(hall):
    return str(hall.many)


def _plan_told(hall):
    return line_of_plan(hall.plan)


def _room_told(hall):
    return line_of_room(hall.space)


# What is told for each line of one word.
ANSWERS = {
    "undo": _undone, "redo": _done_again, "cells": _cells_told, "rows": _rows_told, "astray": _astray_told,
    "many": _many_told, "plan": _plan_told, "room": _room_told,
}


class Desk:
    """A hall at which deeds are done and questions asked by words."""

    def __init__(self, setup, plan):
        self._hall = Hall(setup, plan)

    @property
    def hall(self):
        return self._hall

    def say(self, line):
        """The answer to a line."""
        if not isinstance(line, str):
            raise BadCommand(line)
        told = read_line(line)
        if told is not None:
            return _answer_to_deed(self._hall, told)
        words = line.split(" ")
        if words[0] == "tapes" and len(words) == 2 and is_name(words[1]):
            return str(len(self._hall.tapes_of(words[1])))
        if line not in ANSWERS:
            raise BadCommand(line)
        answer = ANSWERS[line]
        return answer(self._hall)

    def say_all(self, lines):
        """The answers to some lines; those ahead of one that is refused are done."""
        return tuple([self.say(line) for line in lines])


def _answer_to_deed(hall, told):
    """Does a deed of a journal, and tells what comes of it."""
    try:
        worth = do_line(hall, told)
    except Fault as fault:
        return " ".join(["faults"] + list(fault.words))
    return DONE if worth is None else f"gives {worth}"
