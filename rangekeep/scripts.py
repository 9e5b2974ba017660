"""Scripts: texts of commands, one in a line, are read and written."""

from rangekeep.errors import InvalidScript

# N stands for an integer, P and R for three and for two integers in parentheses, L for any number of them.
FORMS = (
    "band N still", "band N moving", "code L N N", "gold L N N N", "planet N", "mask N N", "beacon N N N N P",
    "orbit N N N P P P", "clock N N N N", "send N time", "send N orbit", "send N clock", "tell N key L",
    "tell N tag L", "tell N orbit L", "tell N clock L", "know N", "forget N", "noise N N", "at P N", "box R R R",
    "offsets N N", "faults N", "hear", "states N", "fix N", "why N P", "verdicts N", "least N", "stop N N",
    "kept N N N", "moments N N N")
# How many integers the parentheses of a form have.
SIZES = {"P": 3, "R": 2}
LETTERS = "abcdefghijklmnopqrstuvwxyz"
DIGITS = "0123456789"
MOST_DIGITS = 15


def parse_script(text):
    """Return the number and the command of each line that has one."""
    told = []
    for number, line in enumerate(text.split("\n"), start=1):
        if not all([" " <= sign <= "~" for sign in line]):
            raise InvalidScript(number)
        code, _, _ = line.partition("#")
        tokens = _tokens(code, number)
        if tokens:
            told.append((number, _command(tokens, number)))
    return told


def _tokens(line, number):
    """Return the tokens of a line: words and parentheses as strings, and integers."""
    told = []
    at = 0
    while at < len(line):
        end = _end_of_token(line, at)
        token = line[at:end]
        if token in ("(", ")") or token[0] in LETTERS:
            told.append(token)
        elif token != " ":
            told.append(_integer(token, number))
        # Two tokens that are words or integers do not touch.
        if token not in ("(", ")", " ") and end < len(line) and line[end] not in "() ":
            raise InvalidScript(number)
        at = end
    return told


def _end_of_token(line, at):
    """Return the place behind the token, or the space, that begins at a place."""
    signs = LETTERS if line[at] in LETTERS else DIGITS
    end = at + 1
    if line[at] not in "() ":
        while end < len(line) and line[end] in signs:
            end += 1
    return end


def _integer(token, number):
    """Return the integer that a token is."""
    if token == "0":
        return 0
    digits = token.removeprefix("-")
    is_plain = digits != "" and all([sign in DIGITS for sign in digits])
    if not is_plain or digits[0] == "0" or len(digits) > MOST_DIGITS:
        raise InvalidScript(number)
    return int(token)


def _command(tokens, number):
    """Return the command of a row of tokens."""
    values = _values(tokens, number)
    for form in FORMS:
        if _has_form(values, form.split(" ")):
            return values
    raise InvalidScript(number)


def _values(tokens, number):
    """Return the values of the tokens; what stands in parentheses is one tuple."""
    told, inside = [], None
    for token in tokens:
        if token == "(":
            if inside is not None:
                raise InvalidScript(number)
            inside = []
        elif token == ")":
            if inside is None:
                raise InvalidScript(number)
            told.append(tuple(inside))
            inside = None
        elif inside is None:
            told.append(token)
        else:
            inside.append(token)
    if inside is not None:
        raise InvalidScript(number)
    return tuple(told)


def _has_form(values, form):
    """Tell whether values are those of a form."""
    return len(values) == len(form) and all([_fits(value, part) for value, part in zip(values, form)])


def _fits(value, part):
    """Tell whether a value is what a part of a form stands for."""
    if part == "N":
        return isinstance(value, int)
    if part not in ("P", "R", "L"):
        return value == part
    if not isinstance(value, tuple) or not all([isinstance(item, int) for item in value]):
        return False
    return part == "L" or len(value) == SIZES[part]


def print_command(command):
    """Return the text of a command."""
    return " ".join([_text_of(value) for value in command])


def _text_of(value):
    if isinstance(value, tuple):
        return "(" + " ".join([str(item) for item in value]) + ")"
    return str(value)
