import random
import unittest

from rangekeep.errors import InvalidScript
from rangekeep.scripts import parse_script, print_command

# One command of each form of the document's table.
COMMANDS = [
    ("band", 1, "still"), ("band", 0, "moving"), ("code", (2, 3), 10, 11), ("code", (), 1, 2),
    ("gold", (1, 3), 0, 1, 2),
    ("planet", 5), ("mask", 1, 2), ("beacon", 0, -10, 2, -3, (1, 2, 3)),
    ("orbit", 0, 1, 2, (3, 4, 5), (6, 7, 8), (9, 0, 1)),
    ("clock", 0, 1, 2, 3), ("send", 0, "time"), ("send", 1, "orbit"), ("send", 2, "clock"), ("tell", 0, "key", (3, 77)),
    ("tell", 0, "tag", ()), ("tell", 0, "orbit", (1,)), ("tell", 0, "clock", (1, 2, 3, 4, 5, 6, 7, 8, 9, 10, 11)),
    ("know", 0), ("forget", 0), ("noise", 20, 3), ("at", (-1, 0, 2), 5), ("box", (0, 1), (-2, 3), (4, 4)),
    ("offsets", -1, 1), ("faults", 2), ("hear",), ("states", 30), ("fix", 30), ("why", 30, (1, 2, 3)), ("verdicts", 0),
    ("least", 1), ("stop", 1, 2), ("kept", 1, 2, 3), ("moments", 3, 2, 1)]


def written(command, rng):
    """The text of a command, with more spaces or fewer where these are free."""
    tokens = []
    for value in command:
        tokens += ["("] + [str(item) for item in value] + [")"] if isinstance(value, tuple) else [str(value)]
    text = " " * rng.randint(0, 2)
    for last, token in zip([""] + tokens, tokens):
        is_needed = last not in ("", "(", ")") and token not in ("(", ")")
        text += " " * rng.randint(1 if is_needed else 0, 3) + token
    return text + " " * rng.randint(0, 2)


class ParseTest(unittest.TestCase):
    def check(self, text, told):
        self.assertEqual(parse_script(text), told)

    def fails(self, text, place=1):
        with self.assertRaises(InvalidScript) as caught:
            parse_script(text)
        self.assertEqual(caught.exception.place, place)

    def test_each_form(self):
        rng = random.Random(232)
        for command in COMMANDS:
            for _ in range(20):
                self.check(written(command, rng), [(1, command)])

    def test_kinds_of_values(self):
        (_, command), = parse_script("beacon 0 -10 2 -3 (1 2 3)")
        self.assertEqual([type(value) for value in command], [str, int, int, int, int, tuple])

    def test_lines(self):
        self.check("", [])
        self.check("\n\n", [])
        self.check("hear", [(1, ("hear",))])
        self.check("\n  \nhear\n\nplanet 5\n", [(3, ("hear",)), (5, ("planet", 5))])

    def test_comments(self):
        self.check("# hear", [])
        self.check("  #", [])
        self.check("hear# again # and ~!\n#\nplanet 5 # 6", [(1, ("hear",)), (3, ("planet", 5))])
        self.check("planet 5#6", [(1, ("planet", 5))])
        self.fails("planet # 5")

    def test_signs(self):
        for sign in [chr(code) for code in range(32)] + ["\x7f", "\x80", "\xe9", "\u2028", "\x85", "\u20ac",
                                                         "\U0001f600"]:
            if sign != "\n":
                self.fails("hear\n" + sign, 2)
                self.fails("hear\nhear" + sign + "\nfix", 2)
                self.fails("hear\n\n# " + sign, 3)
        self.check("# " + "".join([chr(code) for code in range(32, 127)]), [])
        for code in range(33, 127):
            if chr(code) not in "#()-" and not chr(code).isalnum():
                self.fails("hear " + chr(code))
                self.fails("planet 5" + chr(code))
                self.fails("planet " + chr(code) + "5")

    def test_integers(self):
        for text, number in [("0", 0), ("1", 1), ("-1", -1), ("10", 10), ("-90", -90),
                             ("123456789012345", 123456789012345),
                             ("-123456789012345", -123456789012345), ("999999999999999", 10 ** 15 - 1)]:
            self.check("planet " + text, [(1, ("planet", number))])
            self.check("at (" + text + " 0 " + text + ")" + text, [(1, ("at", (number, 0, number), number))])
        for text in ("00", "01", "-0", "-01", "--1", "-", "+1", "1-", "1-2", "- 1", "1234567890123456",
                     "-1234567890123456",
                     "1a", "1A", "0a", "00000", "1.0", "1_0", "0x1", "1e3", "\u0661", "5(", ")5", "1,2"):
            self.fails("planet " + text)

    def test_words(self):
        for text in ("Hear", "HEAR", "hearing", "hea", "he ar", "h", "hear5", "5hear", "hear-5", "fix5", "fix-5",
                     "band 5still",
                     "band 5 stil", "band 5 Still", "send 0time", "send 0 timer", "send time 0", "code(2 3)10 10 x"):
            self.fails(text)
        self.check("code(2 3)10 10", [(1, ("code", (2, 3), 10, 10))])
        self.check("box(0 1)(2 3)(4 5)", [(1, ("box", (0, 1), (2, 3), (4, 5)))])
        self.check("tell 0 key(3 77)", [(1, ("tell", 0, "key", (3, 77)))])

    def test_parentheses(self):
        for text in ("at (1 2 3 5", "at 1 2 3) 5", "at ((1 2 3) 5", "at (1 2 3)) 5", "at ((1 2 3)) 5", "at (1 (2) 3) 5",
                     "at )1 2 3( 5", "at (1 2) 5", "at (1 2 3 4) 5", "at () 5", "at 1 2 3 5", "at (1 a 3) 5",
                     "at (1 2 3) (5)",
                     "(", ")", "()", "(hear)", "5", "box (0 1) (2 3)", "box (0 1) (2 3) (4 5) (6 7)",
                     "box (0 1) (2 3) (4 5 6)",
                     "code (2 still) 1 1", "code 2 3 1 1", "why 3 (1 2)", "tell 0 key 3", "tell 0 time (3)",
                     "tell (0) key (3)"):
            self.fails(text)

    def test_forms_with_one_value_more_or_fewer(self):
        for command in COMMANDS:
            text = print_command(command)
            self.fails(text + " 7")
            self.fails(text + " hear")
            self.fails(text + " (7)")
            if len(command) > 1:
                self.fails(print_command(command[:-1]))
                self.fails(print_command(command[1:]))

    def test_values_of_another_kind(self):
        for command in COMMANDS:
            for k, value in enumerate(command):
                for other in (7, "zoo", (7,), (1, 2), (1, 2, 3), (1, "zoo", 3)):
                    changed = command[:k] + (other,) + command[k + 1:]
                    is_list = command[0] in ("code", "gold", "tell") and isinstance(value, tuple)
                    if not (isinstance(value, int) and other == 7) and not (
                            isinstance(value, tuple) and isinstance(other, tuple) and "zoo" not in other
                            and (is_list or len(value) == len(other))):
                        self.fails(print_command(changed))

    def test_the_first_line_that_fails(self):
        self.fails("hear\nfix\nHEAR\n\x00", 2)
        self.fails("hear\n# ok\nhear hear\nfix", 3)
        self.fails("\n\n\n\tfix 3", 4)


class PrintTest(unittest.TestCase):
    def test_spaces(self):
        self.assertEqual(print_command(("hear",)), "hear")
        self.assertEqual(print_command(("tell", 0, "key", ())), "tell 0 key ()")
        self.assertEqual(print_command(("at", (-1, 0, 2), -5)), "at (-1 0 2) -5")
        self.assertEqual(print_command(("box", (0, 1), (2, 3), (4, 5))), "box (0 1) (2 3) (4 5)")
        self.assertEqual(print_command(("code", (3,), 1, 2)), "code (3) 1 2")

    def test_what_is_printed_is_read_as_the_command(self):
        for command in COMMANDS:
            self.assertEqual(parse_script(print_command(command)), [(1, command)])
        text = "\n".join([print_command(command) for command in COMMANDS])
        self.assertEqual(parse_script(text), list(enumerate(COMMANDS, start=1)))


if __name__ == "__main__":
    unittest.main()
