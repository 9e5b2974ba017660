"""The console: runs the commands of a script."""

from rangekeep.answers import ANSWERS, answer
from rangekeep.desk import Desk
from rangekeep.scripts import parse_script

# The greatest absolute value of an integer in a command.
MOST = 10 ** 9


def run_script(text):
    """Return the lines that the commands of a script answer in a new console."""
    desk = Desk()
    told = []
    for line, command in parse_script(text):
        word, *values = command
        desk.go_to(line)
        desk.require(all([abs(number) <= MOST for number in _integers(values)]))
        if word in ANSWERS:
            told.extend(answer(desk, word, values))
        else:
            desk.change(word, values)
    return told


def _integers(values):
    """Return all integers of a command."""
    told = []
    for value in values:
        if isinstance(value, int):
            told.append(value)
        elif isinstance(value, tuple):
            told.extend(value)
    return told
