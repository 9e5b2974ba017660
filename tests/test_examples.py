"""The examples of the document's interface, as they stand there."""

import contextlib
import doctest
import io
import unittest

from rangekeep.errors import RangekeepError

EXAMPLES = {
    "registers": """
>>> from rangekeep.registers import complexity, connection, maximal_taps, period, sequence, step
>>> [step((2, 3), (1, 0, 0)), sequence((2, 3), (1, 0, 0), 8), period((2, 3), (1, 0, 0)), period((3,), (1, 0, 0))]
[(0, (0, 1, 0)), [0, 0, 1, 0, 1, 1, 1, 0], 7, 3]
>>> [maximal_taps(3), complexity([0, 0, 1, 0, 1, 1, 1, 0]), connection([0, 0, 1, 0, 1, 1, 1, 0]), complexity([0, 0, 0])]
[[(1, 3), (2, 3)], 3, (0, 1, 1), 0]
""",
    "codes": """
>>> from rangekeep.codes import bound, even, family, maximal_code, odd
>>> code = maximal_code((2, 3))
>>> [code, [even(code, code, k) for k in range(7)], odd(code, code, 1)]
[(-1, -1, -1, 1, 1, -1, 1), [7, -1, -1, -1, -1, -1, -1], 1]
>>> [len(family((2, 3))), bound(3), bound(5), bound(6), bound(7)]
[9, 5, 9, 17, 17]
""",
    "samples": """
>>> from rangekeep.codes import maximal_code
>>> from rangekeep.samples import Stream, samples, starts, value
>>> stream = Stream(maximal_code((2, 3)), 2, 1, [1, -1], [1, 0])
>>> [starts(stream), samples([stream], [0] * 16)]
[[1, 9, 15], [0, -2, -2, -2, 2, 2, -2, 2, 2, 2, 2, 2, -2, -2, 2, 0]]
""",
}


def printed(source, names):
    """Return what the interpreter prints for a line, or "raises" and the name of the error."""
    out = io.StringIO()
    with contextlib.redirect_stdout(out):
        try:
            exec(compile(source, "<example>", "single"), names)
        except RangekeepError as error:
            print("raises", type(error).__name__)
    return out.getvalue()


class ExamplesTest(unittest.TestCase):
    def test_examples(self):
        for name, text in EXAMPLES.items():
            names = {}
            examples = doctest.DocTestParser().get_examples(text)
            self.assertTrue(examples)
            for example in examples:
                with self.subTest(module=name, source=example.source):
                    self.assertEqual(printed(example.source, names), example.want)


if __name__ == "__main__":
    unittest.main()
