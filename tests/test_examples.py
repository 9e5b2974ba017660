"""The examples of the document's interface, as they stand there, and those of README.md."""

import contextlib
import doctest
import io
import pathlib
import re
import unittest

from rangekeep.errors import RangekeepError

EXAMPLES = {
    "registers": """
>>> from rangekeep.registers import complexity, connection, maximal_taps, period, sequence, step
>>> [step((2, 3), (1, 0, 0)), sequence((2, 3), (1, 0, 0), 8), period((2, 3), (1, 0, 0)), period((3,), (1, 0, 0))]
[(0, (0, 1, 0)), [0, 0, 1, 0, 1, 1, 1, 0], 7, 3]
>>> [maximal_taps(3), complexity([0, 0, 1, 0, 1, 1, 1, 0]), connection([0, 0, 1, 0, 1, 1, 1, 0]), complexity([0, 0, 0])]
[[(1, 3), (2, 3)], 3, (0, 1, 1), 0]
""",
    "codes": """
>>> from rangekeep.codes import bound, even, family, maximal_code, odd
>>> code = maximal_code((2, 3))
>>> [code, [even(code, code, k) for k in range(7)], odd(code, code, 1)]
[(-1, -1, -1, 1, 1, -1, 1), [7, -1, -1, -1, -1, -1, -1], 1]
>>> [len(family((2, 3))), bound(3), bound(5), bound(6), bound(7)]
[9, 5, 9, 17, 17]
""",
    "samples": """
>>> from rangekeep.codes import maximal_code
>>> from rangekeep.samples import Stream, samples, starts, value
>>> stream = Stream(maximal_code((2, 3)), 2, 1, [1, -1], [1, 0])
>>> [starts(stream), samples([stream], [0] * 16)]
[[1, 9, 15], [0, -2, -2, -2, 2, 2, -2, 2, 2, 2, 2, 2, -2, -2, 2, 0]]
""",
    "margin": """
>>> from rangekeep.codes import maximal_code
>>> from rangekeep.margin import Settings, loud, margin, quiet, weight, worst
>>> code = maximal_code((2, 3))
>>> [weight(code, code, 7, 0), weight(code, code, 7, 1), weight(code, code, 6, 0), worst(code, code, False)]
[7, 1, 7, 1]
>>> one = Settings([code], [(10, 10)], 1, False)
>>> [loud(one, 0), quiet(one, 0), margin(one, 0)]
[63, 17, 46]
""",
    "acquiring": """
>>> from rangekeep.acquiring import acquired, correlation, hits, tracks
>>> from rangekeep.codes import maximal_code
>>> from rangekeep.margin import Settings
>>> from rangekeep.samples import Stream, samples
>>> code = maximal_code((2, 3))
>>> heard = samples([Stream(code, -10, 2, [0, 0, 0], [1, 1, 0])], [1, -1] * 12)
>>> [correlation(heard, 2, code), correlation(heard, 16, code), hits(heard, code, 63)]
[-69, 71, [(2, 0), (9, 0), (16, 1)]]
>>> acquired(Settings([code], [(10, 10)], 1, False), heard)
[[[(2, 0), (9, 0), (16, 1)]]]
""",
    "words": """
>>> from rangekeep.words import read_word, word_of
>>> word_of(1024)
(1, 1, 1, 1, 0, 0, 0, 0, 0, 0, 0, 0, 0, 0, 0, 0)
>>> read_word((1, 1, 1, 1, 0, 0, 1, 0, 0, 0, 0, 0, 0, 0, 0, 0))
(1024, 6)
>>> read_word((1, 1, 1, 0, 0, 0, 1, 0, 0, 0, 0, 0, 0, 0, 0, 0)) is None
True
""",
    "framing": """
>>> from rangekeep.framing import frames_in, stream_of, stuff, unstuff
>>> stuff([0, 0, 0, 0, 0, 1])
[0, 0, 0, 0, 1, 0, 1]
>>> unstuff([1, 1, 1, 1, 1, 0, 1])
[1, 1, 1, 1, 1, 1]
>>> frames_in([1 - bit for bit in [1, 0] + stream_of([[1, 1, 0]])])
[(2, -1, (1, 1, 0))]

>>> from rangekeep.framing import unstuff
>>> unstuff([1, 1, 1, 1, 1, 1])
raises InvalidFrame
""",
    "records": """
>>> from rangekeep.records import cells_of, pages_of, read_record
>>> cells_of(("clock", 3000, -1, 0))
[3, 1976, 2, 1, 0]
>>> read_record([1, 1976, 2])
('time', 3000)
>>> pages_of(("time", 7), 2047)
[[2047, 0, 1, 7, 40]]
""",
    "orbits": """
>>> from rangekeep.orbits import Orbit, is_above, is_seen, position
>>> orbit = Orbit(0, 4000, (100, 0, 0), (1048576, -1, 0), (0, 0, 2))
>>> [position(orbit, 0), position(orbit, 3), position(orbit, 2000)]
[(100, 0, 0), (103, -1, 0), (2100, -1, 3)]
>>> [is_seen(5, (-9, 0, 0), (9, 1, 0)), is_seen(5, (-9, 5, 0), (9, 5, 0)), is_above((1, 1), (3, 0, 0), (5, 2, 0)), is_above((1, 1), (3, 0, 0), (5, 3, 0))]
[False, True, True, False]
""",
    "clocks": """
>>> from rangekeep.clocks import Clock, reading, time_of
>>> clock = Clock(10, 100, -65536)
>>> [reading(clock, 10), reading(clock, 11), reading(clock, 26), reading(clock, 27), time_of(clock, 125), time_of(clock, 126)]
[110, 110, 125, 125, 26, 28]
""",
    "boxes": """
>>> from rangekeep.boxes import cut, distance, middle, near_far, root, volume
>>> box = ((0, 3), (1, 8), (5, 5))
>>> [root(99), distance((0, 0, 0), (3, 4, 1)), volume(box), near_far(box, (2, 0, 9)), middle(box)]
[9, 5, 32, (4, 9), (1, 4)]
>>> cut(box, 1, 4)
(((0, 3), (1, 4), (5, 5)), ((0, 3), (5, 8), (5, 5)))
""",
    "offsets": """
>>> from rangekeep.offsets import Observation, at_least, common, deepest, holds, possible
>>> one = Observation(0, (0, 0, 0), 20, 1, None)
>>> far = Observation(1, (9, 9, 9), 3, 1, 10)
>>> [holds(one, 15, 4), holds(far, 7, 26), possible(one, (10, 12), -5, 50), possible(far, (7, 8), 0, 20)]
[True, True, [(7, 11)], [(4, 7), (14, 17)]]
>>> rows = [[(7, 11)], [(4, 7), (14, 17)]]
>>> [common(rows[0], rows[1]), deepest(rows), at_least(rows, 1)]
[[(7, 7)], (2, 7), [(4, 11), (14, 17)]]
""",
    "ranges": """
>>> from rangekeep.clocks import Clock
>>> from rangekeep.orbits import Orbit
>>> from rangekeep.ranges import observed, observed_unread, sent_at, start_of, steps_of
>>> orbit = Orbit(0, 1000, (30, 40, 0), (0, 0, 0), (0, 0, 0))
>>> clock = Clock(0, 5, 0)
>>> [sent_at(clock, 15, 4), start_of(orbit, clock, 15, 4, (0, 0, 0), 7), steps_of(orbit, clock, 15, 4, 2, (0, 0, 0), 7)]
[55, 112, [0, 0]]
>>> track = [(97, 1), (112, 0), (127, 1)]
>>> one = observed(3, orbit, clock, 15, track, 0, 45, 120)
>>> [one.sender, one.point, one.reading, one.slack, one.modulus]
[3, (30, 40, 0), 57, 0, None]
>>> [observed_unread(3, orbit, clock, 15, track, 120).reading, observed(3, orbit, clock, 15, track, 0, 45, 96)]
[117, None]
""",
    "fixing": """
>>> from rangekeep.fixing import Problem, is_solution, offsets_at, places, tree
>>> from rangekeep.offsets import Observation
>>> seen = [Observation(0, (0, 0, 0), 5, 0, None), Observation(1, (8, 0, 0), 3, 0, None)]
>>> problem = Problem(seen, ((0, 8), (0, 0), (0, 0)), 0, 0, 0)
>>> [places(problem), offsets_at(problem, (5, 0, 0)), is_solution(problem, (4, 0, 0), 0)]
[[(5, 0, 0)], [(0, 0)], False]
>>> tree(problem)
('cut', 0, 4, ('out',), ('cut', 0, 6, ('cut', 0, 5, ('place',), ('out',)), ('out',)))
""",
    "faults": """
>>> from rangekeep.faults import extent, least_faults, verdicts
>>> from rangekeep.fixing import Problem
>>> from rangekeep.offsets import Observation
>>> seen = [Observation(0, (0, 0, 0), 5, 0, None), Observation(1, (8, 0, 0), 3, 0, None), Observation(2, (0, 0, 0), 7, 0, None)]
>>> problem = Problem(seen, ((0, 8), (0, 0), (0, 0)), 0, 0, 1)
>>> [verdicts(problem), least_faults(problem), extent(problem)]
[['right', 'right', 'wrong'], 1, (((5, 5), (0, 0), (0, 0)), 0, 0)]
""",
    "tracks": """
>>> from rangekeep.fixing import Problem
>>> from rangekeep.offsets import Observation
>>> from rangekeep.tracks import Journey, fitting, kept, least_misses, moment_verdicts, some_track
>>> line = ((0, 8), (0, 0), (0, 0))
>>> first = Problem([Observation(0, (0, 0, 0), 2, 0, None)], line, 0, 0, 0)
>>> second = Problem([Observation(0, (0, 0, 0), 5, 1, None)], line, 0, 0, 0)
>>> journey = Journey([(0, first), (4, second), (6, None)], 524288, 0, 0)
>>> kept(journey)
[[((2, 0, 0), [(0, 0)])], [((4, 0, 0), [(0, 0)])], None]
>>> [some_track(journey), fitting(journey, 2, (3, 0, 0), -5, 5), fitting(journey, 2, (4, 0, 0), -5, 5)]
[[((2, 0, 0), 0), ((4, 0, 0), 0), None], [(0, 0)], []]
>>> sooner = Journey([(0, first), (2, second)], 524288, 0, 1)
>>> [moment_verdicts(journey), least_misses(sooner), moment_verdicts(sooner)]
[['right', 'right', 'open'], 1, ['open', 'open']]
""",
    "papers": """
>>> from rangekeep.fixing import Problem, tree
>>> from rangekeep.offsets import Observation
>>> from rangekeep.papers import out_paper, shows_out
>>> from rangekeep.tracks import Journey
>>> line = ((0, 8), (0, 0), (0, 0))
>>> first = Problem([Observation(0, (0, 0, 0), 2, 0, None)], line, 0, 0, 0)
>>> journey = Journey([(0, first), (6, None)], 524288, 0, 0)
>>> block = (((0, 2), (0, 0), (0, 0)), 0, 0)
>>> paper = ((tree(first), None), (((block,),),), ())
>>> [shows_out(journey, 4, ((5, 0, 0), 0), paper), shows_out(journey, 4, ((4, 0, 0), 0), paper), out_paper(journey, 4, ((4, 0, 0), 0))]
[True, False, None]
>>> shows_out(journey, 4, ((4, 0, 0), 1), out_paper(journey, 4, ((4, 0, 0), 1)))
True
""",
    "later": """
>>> from rangekeep.later import Chain, KeyReceiver, KeySender
>>> chain = Chain(7, 3)
>>> sender = KeySender(chain, 10, 1)
>>> receiver = KeyReceiver(chain.anchor(), 3, 10, 1, 2)
>>> packet = sender.tag(14, ("word", 5))
>>> [receiver.hear(15, packet), receiver.hear(17, packet), receiver.hear(18, packet), receiver.kept()]
[[], [], [], 2]
>>> [sender.key(19), receiver.hear(21, sender.key(20)), receiver.latest()]
[None, [(1, ('word', 5)), (1, ('word', 5))], 1]

>>> from rangekeep.terms import can_make
>>> known = [("pair", ("hash", ("seed", 1)), ("word", 2))]
>>> [can_make(known, ("hash", ("hash", ("seed", 1)))), can_make(known, ("seed", 1)), can_make(known, ("mark", ("seed", 1), ("word", 0)))]
[True, False, False]
""",
    "worlds": r"""
>>> from rangekeep.clocks import Clock
>>> from rangekeep.orbits import Orbit
>>> from rangekeep.worlds import Beacon, bits_of, is_honest
>>> still = Orbit(0, 9000, (30, 40, 0), (0, 0, 0), (0, 0, 0))
>>> beacon = Beacon(10, still, Clock(0, 0, 0), 2, 0, [("time", 0)])
>>> [len(bits_of(beacon, 15)), is_honest(beacon), is_honest(Beacon(10, still, Clock(0, 0, 0), 2, 0, [("clock", 0, 1, 0)]))]
[106, True, False]
""",
    "explaining": r"""
>>> from rangekeep.explaining import account, excess
>>> from rangekeep.fixing import Problem
>>> from rangekeep.offsets import Observation
>>> near = Observation(0, (0, 0, 0), 5, 1, None)
>>> far = Observation(1, (9, 0, 0), 2, 0, 10)
>>> [excess(near, 8, 0), excess(near, 2, 0), excess(far, 7, 0), excess(far, 8, 0)]
[2, -2, 5, -4]
>>> account(Problem([near, far], ((0, 9), (0, 0), (0, 0)), 0, 3, 0), (7, 0, 0))
(1, 0, [[1], [0]])
""",
    "console": r"""
>>> from rangekeep.console import run_script
>>> from rangekeep.scripts import parse_script, print_command
>>> parse_script("band 1 still\n\n code (2 3) 10 10 # seven chips\nat (-1 0 2)5")
[(1, ('band', 1, 'still')), (3, ('code', (2, 3), 10, 10)), (4, ('at', (-1, 0, 2), 5))]
>>> print_command(("tell", 0, "key", (3, 77)))
'tell 0 key (3 77)'
>>> run_script("band 0 still\ncode (2 3) 10 10\nbeacon 0 10 0 0 (3 4 5)\nknow 0\nnoise 40 0\nat (3 4 2) 0\nhear\nbox (3 3) (4 4) (0 8)\nfix 30")
['sender 0: 5 starts 0 frames 0 records', 'places 2', '(3 4 2) 0..0', '(3 4 8) 0..0']

>>> from rangekeep.scripts import parse_script
>>> parse_script("hear\nfix")
raises InvalidScript
""",
    "planning": r"""
>>> from rangekeep.planning import Plan, best, doubt, is_bound, shows_best, worst_doubt
>>> plan = Plan([(0, 0, 0), (0, 9, 0), (4, 0, 0)], ((0, 2), (0, 0), (0, 0)), 0, 0, 0, 1)
>>> [doubt(plan, (1,), ((0, 0, 0), 0)), worst_doubt(plan, (0,)), worst_doubt(plan, (1,)), best(plan)]
[3, 1, 3, ((0,), 1)]
>>> paper = ("low", ((0, 0, 0), 0), (((0, 0, 0), 0),))
>>> [is_bound(plan, 1, paper), is_bound(plan, 2, paper), shows_best(plan, (2,), paper), shows_best(plan, (1,), paper)]
[True, False, True, False]
""",
}


def printed(source, names):
    """Return what the interpreter prints for a line, or "raises" and the name of the error."""
    out = io.StringIO()
    with contextlib.redirect_stdout(out):
        try:
            exec(compile(source, "<example>", "single"), names)
        except RangekeepError as error:
            print("raises", type(error).__name__)
    return out.getvalue()


class ExamplesTest(unittest.TestCase):
    def check(self, text):
        names = {}
        examples = doctest.DocTestParser().get_examples(text)
        self.assertTrue(examples)
        for example in examples:
            with self.subTest(source=example.source):
                self.assertEqual(printed(example.source, names), example.want)

    def test_the_document(self):
        for name, text in EXAMPLES.items():
            with self.subTest(module=name):
                self.check(text)

    def test_the_readme(self):
        readme = pathlib.Path(__file__).resolve().parent.parent / "README.md"
        blocks = re.findall("```\n(>>>.*?)```", readme.read_text(), re.DOTALL)
        self.assertEqual(len(blocks), 4)
        for text in blocks:
            self.check(text)


if __name__ == "__main__":
    unittest.main()
