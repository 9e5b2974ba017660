import unittest

from rangekeep.clocks import Clock
from rangekeep.codes import family, maximal_code
from rangekeep.console import run_script
from rangekeep.errors import InvalidScript
from rangekeep.explaining import account, states
from rangekeep.faults import least_faults, verdicts
from rangekeep.fixing import Problem, offsets_at, places
from rangekeep.margin import Settings
from rangekeep.orbits import Orbit
from rangekeep.receiver import heard, problem_at
from rangekeep.tracks import Journey, kept, moment_verdicts
from rangekeep.worlds import Beacon, Sky, received

MOST = 10 ** 9
STILL = (0, 0, 0)


def always(*place):
    return Orbit(-1000000, 1000000, place, STILL, STILL)


def lines(*commands):
    return "\n".join(commands)


def written_noise(most, size, seed):
    """Point 23.3."""
    return [(seed * k + k * k) % (2 * most + 1) - most for k in range(size)]


def written_point(point):
    return "(" + " ".join(str(at) for at in point) + ")"


def written_set(rows):
    return ["places " + str(len(rows))] + [
        written_point(point) + "".join(f" {low}..{high}" for low, high in spans) for point, spans in rows]


ONE = lines("band 1 still", "code (2 3) 10 10", "beacon 0 10 0 0 (3 4 5)")
# Three senders in two bands that can be heard, and one whose code has no positive margin.
WORLD = lines("band 1 still", "code (2 3) 10 10", "band 0 moving", "gold (1 3) 7 9 12", "band 1 still",
              "code (1 4) 10 10",
              "band 9 still", "code (2 3) 1 1",
              "beacon 0 10 2 0 (30 40 0)", "orbit 0 0 9000 (30 40 0) (0 0 0) (0 0 0)", "send 0 time", "send 0 clock",
              "beacon 1 -12 0 0 (25 30 2)", "clock 1 0 -3 0", "know 1", "tell 1 key (3 77)",
              "beacon 2 10 1 30 (40 20 5)", "send 2 time",
              "know 0", "know 2", "at (20 20 1) 5", "noise 2500 7", "box (19 21) (18 21) (1 2)", "offsets 0 9")


class World:
    """The world of the script above, built by hand."""

    bands = [Settings([maximal_code((2, 3))], [(10, 10)], 1, False),
             Settings([family((1, 3))[7]], [(9, 12)], 0, True),
             Settings([maximal_code((1, 4))], [(10, 10)], 1, False),
             Settings([maximal_code((2, 3))], [(1, 1)], 9, False)]
    orbit = Orbit(0, 9000, (30, 40, 0), STILL, STILL)
    beacons = [Beacon(10, orbit, Clock(0, 0, 0), 2, 0, [("time", 0), ("clock", 0, 0, 0)]),
               Beacon(-12, always(25, 30, 2), Clock(0, -3, 0), 0, 0, [("key", 3, 77)]),
               Beacon(10, always(40, 20, 5), Clock(0, 0, 0), 1, 30, [("time", 0)]), None]
    almanac = [(orbit, Clock(0, 0, 0)), (always(25, 30, 2), Clock(0, -3, 0)), (always(40, 20, 5), Clock(0, 0, 0)),
               (None, None)]
    box = ((19, 21), (18, 21), (1, 2))

    def rows(self, point=(20, 20, 1), offset=5, size=2500, seed=7):
        noises = [written_noise(settings.noise, size, seed) for settings in self.bands]
        return received(Sky(self.bands, 0, (0, 1), self.beacons), point, offset, noises)

    def problem(self, n, faults=0):
        return problem_at(self.bands, self.almanac, self.rows(), n, self.box, 0, 9, faults)


class ConsoleTest(unittest.TestCase):
    def fails(self, text, place=None):
        with self.assertRaises(InvalidScript) as caught:
            run_script(text)
        self.assertEqual(caught.exception.place, text.count("\n") + 1 if place is None else place)

    def check(self, before, good, bad):
        """Check that commands can be done, and that others cannot, behind some lines."""
        for command in good:
            with self.subTest(can=command):
                self.assertIsInstance(run_script(lines(before, command)), list)
        for command in bad:
            with self.subTest(cannot=command):
                self.fails(lines(before, command))


class AnswersTest(ConsoleTest):
    """Point 23.5."""

    def test_hear(self):
        told = run_script(lines(WORLD, "hear"))
        expected = []
        for k, one in enumerate(heard(World.bands, World().rows())):
            if one is None:
                expected.append(f"sender {k}: deaf")
            else:
                starts, frames, records = len(one.track), len(one.frames), len(one.records)
                expected.append(f"sender {k}: {starts} starts {frames} frames {records} records")
                for place, record in one.records:
                    expected.append(f"at {place}: " + " ".join(str(item) for item in record))
        self.assertEqual(told, expected)
        self.assertIn("sender 3: deaf", told)
        self.assertIn("at 0: time 14", told)
        self.assertIn("at 0: key 3 77", told)
        self.assertIn("at 0: time 45", told)

    def test_states(self):
        seen = set()
        for n in (0, 60, 1000, 2499, MOST):
            told = run_script(lines(WORLD, "forget 2", f"states {n}"))
            almanac = World.almanac[:2] + [(None, None)] * 2
            words = states(World.bands, almanac, World().rows(), n)
            self.assertEqual(told, [f"sender {k}: {word}" for k, word in enumerate(words)])
            seen.update(words)
        self.assertLessEqual({"seen", "unread", "no orbit", "deaf", "none"}, seen)

    def test_fix(self):
        for n in (0, 60, 2499):
            problem = World().problem(n)
            self.assertEqual(run_script(lines(WORLD, f"fix {n}")),
                             written_set([(point, offsets_at(problem, point)) for point in places(problem)]))
        # The sender 2 lies about its time.
        self.assertEqual(run_script(lines(WORLD, "fix 2499")), ["places 0"])
        self.assertIn("(20 20 1) 5..5", run_script(lines(WORLD, "faults 1", "fix 2499")))
        self.assertEqual(run_script(lines(WORLD, "box (5 5) (-3 -3) (0 0)", "offsets -4 6", "faults 3", "fix 60")),
                         ["places 1", "(5 -3 0) -4..6"])

    def test_several_intervals(self):
        script = lines(ONE, "know 0", "at (3 4 2) 0", "noise 40 0", "box (3 3) (4 4) (2 2)", "offsets -9 9", "fix 30")
        self.assertEqual(run_script(script), ["places 1", "(3 4 2) -7..-7 0..0 7..7"])

    def test_places_that_are_many(self):
        for high, told in [(1999, 2001), (2000, 1)]:
            self.assertEqual(len(run_script(lines(f"box (0 {high}) (0 0) (0 0)", "fix 0"))), told)
        self.assertEqual(run_script(lines("box (0 2000) (0 0) (0 0)", "fix 0", "verdicts 0", "least 0")),
                         ["places many", "many", "faults 0"])
        self.assertEqual(run_script(lines("box (-1000000 1000000) (-1000000 1000000) (-1000000 1000000)", "fix 0")),
                         ["places many"])

    def test_why(self):
        for point in ((20, 20, 1), (19, 18, 2)):
            for n in (0, 60, 2499):
                problem = World().problem(n)
                depth, offset, rows = account(problem, point)
                seen = sorted({one.sender for one in problem.observations})
                expected = [f"depth {depth} offset {offset}"]
                expected += [f"sender {k}:" + "".join(f" {item}" for item in row) for k, row in zip(seen, rows)]
                self.assertEqual(run_script(lines(WORLD, f"why {n} {written_point(point)}")), expected)
        self.assertEqual(run_script(lines(WORLD, "why 2499 (20 20 1)"))[1:],
                         ["sender 0: 0", "sender 1: 0", "sender 2: 30"])

    def test_verdicts_and_least(self):
        for faults in (0, 1, 2):
            for n in (0, 60, 2499):
                problem = World().problem(n, faults)
                seen = sorted({one.sender for one in problem.observations})
                self.assertEqual(run_script(lines(WORLD, f"faults {faults}", f"verdicts {n}", f"least {n}")),
                                 [f"sender {k}: {word}" for k, word in zip(seen, verdicts(problem))]
                                 + [f"faults {least_faults(problem)}"])
        self.assertEqual(run_script(lines(WORLD, "faults 1", "verdicts 2499", "least 2499")),
                         ["sender 0: right", "sender 1: right", "sender 2: wrong", "faults 1"])

    def test_stops_kept_and_moments(self):
        stops = [(-3, 60, 1), (4, 2499, 1), (9, 2499, 0), (10, 0, 3)]
        script, moments, told = WORLD, [], []
        for j, (time, n, faults) in enumerate(stops):
            script = lines(script, f"faults {faults}", f"stop {time} {n}")
            moments.append((time, World().problem(n, faults)))
            told.append(f"stop {j}")
        self.assertEqual(run_script(script), told)
        wide = lines(script, "box (0 2000) (0 0) (0 0)", "stop 11 0")
        moments.append((11, problem_at([], [], [], 0, ((0, 2000), (0, 0), (0, 0)), 0, 9, 3)))
        told.append("stop 4")
        for speed, drift, misses in [(0, 0, 0), (0, 0, 1), (2 ** 20, 0, 1), (2 ** 18, 2 ** 20, 5)]:
            journey = Journey(moments, speed, drift, misses)
            expected = []
            for j, rows in enumerate(kept(journey)):
                if rows is None:
                    expected.append(f"stop {j}: open")
                else:
                    expected += [f"stop {j}: " + written_set(rows)[0]] + written_set(rows)[1:]
            expected += [f"stop {j}: {word}" for j, word in enumerate(moment_verdicts(journey))]
            answer = run_script(lines(wide, f"kept {speed} {drift} {misses}", f"moments {speed} {drift} {misses}"))
            self.assertEqual(answer, told + expected)
            self.assertIn("stop 4: open", answer)
        self.assertIn("stop 2: wrong", answer + run_script(lines(wide, "moments 0 0 1")))

    def test_no_senders_and_no_stops(self):
        self.assertEqual(run_script(lines("hear", "states 0", "verdicts 0", "kept 0 0 0", "moments 1 1 5")), [])
        self.assertEqual(run_script(lines("fix 0", "least 3", "why 0 (0 0 0)", "stop 3 0", "kept 0 0 0",
                                          "moments 0 0 0")),
                         ["places 1", "(0 0 0) 0..0", "faults 0", "depth 0 offset 0", "stop 0", "stop 0: places 1",
                          "(0 0 0) 0..0", "stop 0: right"])
        self.assertEqual(run_script("band 3 still\nhear\nfix 0"), ["places 1", "(0 0 0) 0..0"])
        self.assertEqual(run_script(""), [])

    def test_two_consoles(self):
        run_script(lines(WORLD, "stop 0 0"))
        self.assertEqual(run_script(lines("hear", "stop 0 0")), ["stop 0"])


class BeginTest(ConsoleTest):
    """Point 23.3: how a console begins."""

    def test_the_receiver_the_planet_and_the_mask(self):
        # At (1, 0, 0), all that stands on the far side of the origin is below the mask.
        for place, starts in [("(1 0 0)", 8), ("(1 5 0)", 8), ("(9 -3 2)", 8), ("(0 5 0)", 0), ("(-5 0 0)", 0)]:
            told = run_script(lines("band 0 still", "code (2 3) 10 10", f"beacon 0 10 0 0 {place}", "noise 99 0",
                                    "hear"))
            self.assertEqual(told, [f"sender 0: {starts} starts 0 frames 0 records"])

    def test_the_box_the_offsets_and_the_noise(self):
        told = run_script(lines("band 5 still", "code (2 3) 99 99", "beacon 0 99 0 0 (7 0 0)", "know 0", "hear",
                                "fix 9",
                                "why 9 (0 0 0)", "noise 50 0", "why 9 (0 0 0)"))
        self.assertEqual(told, ["sender 0: 0 starts 0 frames 0 records", "places 1", "(0 0 0) 0..0", "depth 0 offset 0",
                                "depth 0 offset 0", "sender 0: 1"])

    def test_a_new_code_is_without_beacon_and_not_in_the_almanac(self):
        self.assertEqual(run_script(lines("band 0 still", "code (2 3) 1 1", "noise 40 0", "hear", "states 9")),
                         ["sender 0: 0 starts 0 frames 0 records", "sender 0: silent"])
        self.assertEqual(run_script(lines(ONE, "at (3 4 2) 0", "noise 40 0", "states 30")), ["sender 0: no orbit"])


class CommandsTest(ConsoleTest):
    """Points 23.3 and 23.4."""

    def test_integers_that_are_too_great(self):
        good = ["band 1000000000 still", "planet 1000000000", "mask 1000000000 1000000000",
                "offsets -1000000000 -999990000",
                "faults 1000000000", "noise 0 1000000000", "at (1 1 1) -1000000000", "fix 1000000000",
                "stop -1000000000 0", "kept 1000000000 1000000000 0"]
        bad = ["band 1000000001 still", "planet 1000000001", "mask 1000000001 1", "mask 0 1000000001",
               "offsets -1000000001 -1000000001", "faults 1000000001", "noise 0 1000000001", "at (1 1 1) -1000000001",
               "at (1 1 1) 1000000001", "fix 1000000001", "stop -1000000001 0", "stop 1000000001 0",
               "stop 0 1000000001",
               "kept 1000000001 0 0", "moments 0 1000000001 0"]
        self.check("planet 0", good, bad)
        self.check(ONE, ["clock 0 1000000000 -1000000000 0", "tell 0 key (1000000000 0)",
                         "beacon 0 1 1000000000 -1000000000 (1 1 1)",
                         "orbit 0 -1000000000 1000000000 (1 2 3) (1000000000 0 -1000000000) (0 1000000000 0)"],
                   ["clock 0 1000000001 0 0", "clock 0 0 -1000000001 0", "tell 0 key (1000000001 0)",
                    "tell 0 tag (0 0 1000000001)", "beacon 0 1 1000000001 0 (1 1 1)",
                    "beacon 0 1 0 -1000000001 (1 1 1)",
                    "beacon 0 1000000001 0 0 (1 1 1)", "orbit 0 0 1000000001 (1 2 3) (0 0 0) (0 0 0)",
                    "orbit 0 0 1 (1 2 3) (0 -1000000001 0) (0 0 0)", "orbit 0 0 1 (1 2 3) (0 0 0) (0 0 1000000001)"])

    def test_coordinates_that_are_too_great(self):
        self.check(ONE, ["at (1000000 -1000000 0) 0", "box (-1000000 1000000) (0 0) (0 0)",
                         "beacon 0 1 0 0 (0 0 1000000)",
                         "orbit 0 0 0 (-1000000 0 0) (1000001 0 0) (0 1000001 0)"],
                   ["at (1000001 0 0) 0", "at (0 -1000001 0) 0", "at (0 0 1000001) 0", "box (0 1000001) (0 0) (0 0)",
                    "box (0 0) (-1000001 0) (0 0)", "box (0 0) (0 0) (-1000001 -1000001)",
                    "beacon 0 1 0 0 (0 0 1000001)",
                    "beacon 0 1 0 0 (-1000001 0 0)", "orbit 0 0 0 (0 1000001 0) (0 0 0) (0 0 0)",
                    "why 0 (1000001 0 0)"])

    def test_bands_and_codes(self):
        self.check("planet 0", ["band 0 still", "band 0 moving"], ["band -1 still", "band -1 moving", "code (2 3) 1 1",
                                                                   "gold (2 3) 0 1 1"])
        self.check("band 0 still", ["code (2 3) 1 1", "code (2 3) 3 4", "code (1 4) 1 1", "code (1 7) 5 5",
                                    "gold (2 3) 0 1 1",
                                    "gold (2 3) 8 1 1", "gold (1 6) 64 1 2"],
                   ["code (2 3) 0 1", "code (2 3) 4 3", "code (2 3) -1 1", "code () 1 1", "code (3) 1 1",
                    "code (3 2) 1 1",
                    "code (2 2) 1 1", "code (2 3 3) 1 1", "code (0 3) 1 1", "code (-1 3) 1 1", "code (1 2) 1 1",
                    "code (2 4) 1 1", "code (1 2 3) 1 1", "code (2 1 3 5) 1 1", "code (1 1 1 3) 1 1",
                    "gold (2 1 3 5) 0 1 1", "gold (1 1 1 3) 0 1 1", "code (2 3 4 8) 1 1", "code (1 9) 1 1",
                    "code (4 9) 1 1",
                    "gold (2 3) -1 1 1", "gold (2 3) 9 1 1", "gold (1 4) 0 1 1", "gold (1 6) 65 1 2",
                    "gold (1 2 3) 0 1 1",
                    "gold () 0 1 1", "gold (3) 0 1 1", "gold (3 2) 0 1 1", "gold (2 3) 0 0 1", "gold (2 3) 0 2 1",
                    "gold (2 3 4 8) 0 1 1", "gold (0 3) 0 1 1"])
        self.check(lines("band 0 still", "code (2 3) 1 1", "gold (2 3) 1 1 1"), ["code (1 3) 1 1", "gold (2 3) 2 1 1"],
                   ["code (2 3) 1 1", "code (2 3) 2 2", "gold (2 3) 0 1 1", "gold (2 3) 1 1 1", "code (1 4) 1 1",
                    "code (2 5) 1 1", "gold (2 5) 3 1 1"])
        # In another band, the same code may stand, and one of another length.
        self.check(lines("band 0 still", "code (2 3) 1 1", "band 0 still"), ["code (2 3) 1 1", "code (1 4) 1 1"], [])

    def test_the_code_goes_to_the_last_band(self):
        told = run_script(lines("band 0 still", "code (2 3) 1 1", "band 9 still", "code (1 3) 1 1", "noise 30 0",
                                "hear"))
        self.assertEqual(told, ["sender 0: 0 starts 0 frames 0 records", "sender 1: deaf"])

    def test_a_band_that_moves(self):
        """The least amplitude with a positive margin is greater in a band that moves."""
        for way, least in [("still", 4), ("moving", 7)]:
            margins = []
            for amplitude in range(1, 12):
                told = run_script(lines(f"band 1 {way}", f"code (2 3) {amplitude} {amplitude}", "hear"))
                margins.append(told == ["sender 0: deaf"])
            first = margins.index(False) + 1
            self.assertEqual(margins, [amplitude < first for amplitude in range(1, 12)])
            if way == "still":
                still = first
        self.assertGreater(first, still)

    def test_planet_and_mask(self):
        self.check(ONE, ["planet 0", "mask 0 1"], ["planet -1", "mask -1 1", "mask 0 0", "mask 0 -1"])
        base = lines(ONE, "noise 60 0")
        for commands, is_there in [(["at (3 4 2) 0"], True), (["at (3 4 2) 0", "planet 5"], True),
                                   (["at (3 4 2) 0", "planet 6"], False), (["at (3 4 2) 0", "mask 1 1"], False),
                                   (["at (3 4 2) 0", "mask 1 3"], True), (["at (3 4 6) 0"], False)]:
            told = run_script(lines(base, *commands, "hear"))
            self.assertEqual(told, [f"sender 0: {8 * is_there} starts 0 frames 0 records"])

    def test_beacons(self):
        self.check("band 0 still\ncode (2 3) 1 9", ["beacon 0 5 0 0 (1 2 3)", "beacon 0 -5 7 -9 (1 2 3)"],
                   ["beacon 0 0 0 0 (1 2 3)", "beacon 0 5 -1 0 (1 2 3)", "beacon 1 5 0 0 (1 2 3)",
                    "beacon -1 5 0 0 (1 2 3)"])
        self.check("planet 0", [], ["beacon 0 5 0 0 (1 2 3)"])
        # A new beacon has no records, and the almanac does not change by it.
        told = run_script(lines(ONE, "send 0 time", "know 0", "beacon 0 10 0 0 (33 44 5)", "at (3 4 2) 0",
                                "noise 999 0",
                                "hear", "box (3 3) (4 4) (2 2)", "why 900 (3 4 2)"))
        self.assertEqual(told, ["sender 0: 8 starts 0 frames 0 records", "depth 0 offset 0", "sender 0: 2"])

    def test_orbits_and_clocks(self):
        self.check(ONE, ["orbit 0 5 5 (1 2 3) (4 5 6) (7 8 9)", "orbit 0 -9 5 (1 2 3) (4 5 6) (7 8 9)",
                         "clock 0 1 2 65536",
                         "clock 0 -1 -2 -65536"],
                   ["orbit 0 5 4 (1 2 3) (4 5 6) (7 8 9)", "clock 0 1 2 65537", "clock 0 1 2 -65537",
                    "orbit 1 5 5 (1 2 3) (4 5 6) (7 8 9)", "clock 1 1 2 3", "orbit -1 5 5 (1 2 3) (4 5 6) (7 8 9)"])
        self.check("band 0 still\ncode (2 3) 1 1", [],
                   ["orbit 0 5 5 (1 2 3) (4 5 6) (7 8 9)", "clock 0 1 2 3", "send 0 time", "send 0 clock", "know 0",
                    "tell 0 key (1 2)"])
        # The records and the number stay.
        told = run_script(lines(ONE, "send 0 time", "clock 0 0 -70 0", "orbit 0 0 5000 (3 4 9) (0 0 0) (0 0 0)",
                                "at (3 4 2) 0", "noise 999 0", "hear"))
        self.assertEqual(told[1], "at 0: time 0")
        self.assertEqual(run_script(lines(ONE, "clock 0 0 -70 0", "know 0", "at (3 4 2) 0", "noise 999 0",
                                          "box (3 3) (4 4) (2 2)", "why 99 (3 4 2)"))[1:], ["sender 0: 0"])

    def test_records(self):
        self.check(ONE, ["send 0 time", "send 0 clock", "tell 0 key (0 0)", "tell 0 tag (1 2 3)",
                         "tell 0 clock (0 -5 99999999)",
                         "tell 0 orbit (5 4 3 2 1 0 -1 -2 -3 -4 -5)"],
                   ["send 0 orbit", "send 1 time", "send -1 time", "tell 1 key (0 0)", "tell 0 key (0)",
                    "tell 0 key ()",
                    "tell 0 key (0 0 0)", "tell 0 key (-1 0)", "tell 0 tag (1 2 -3)", "tell 0 tag (1 2)",
                    "tell 0 clock (-1 0 0)", "tell 0 clock (0 0)", "tell 0 orbit (5 -4 3 2 1 0 -1 -2 -3 -4 -5)",
                    "tell 0 orbit (5 4 3 2 1 0 -1 -2 -3 -4)"])
        self.check(lines(ONE, "orbit 0 0 9 (1 2 3) (4 5 6) (7 8 9)", "clock 0 -1 0 0"), ["send 0 orbit"],
                   ["send 0 clock"])
        self.check(lines(ONE, "orbit 0 -1 9 (1 2 3) (4 5 6) (7 8 9)"), [], ["send 0 orbit"])

    def test_the_records_that_are_sent(self):
        told = run_script(lines(ONE, "beacon 0 10 1 0 (3 4 5)", "orbit 0 0 8000 (3 4 5) (0 0 0) (0 0 0)",
                                "send 0 orbit", "send 0 clock",
                                "orbit 0 1 9000 (3 4 6) (0 0 0) (0 0 0)", "clock 0 5 0 0", "send 0 orbit",
                                "send 0 clock",
                                "tell 0 clock (9 -8 7)", "tell 0 key (1 2)", "noise 12000 0", "at (3 4 2) 0", "hear"))
        self.assertEqual([line.partition(": ")[2] for line in told[1:]],
                         ["orbit 0 8000 3 4 5 0 0 0 0 0 0", "clock 0 0 0", "orbit 1 9000 3 4 6 0 0 0 0 0 0",
                          "clock 5 0 0",
                          "clock 9 -8 7", "key 1 2"])
        self.assertTrue(told[1].startswith("at 0: "))

    def test_the_count_of_a_time_record(self):
        for first, shift, can in [(0, 0, True), (0, -1, False), (3, -21, True), (3, -22, False), (0, 5, True)]:
            before = lines("band 1 still", "code (2 3) 10 10", f"beacon 0 10 {first} {shift} (3 4 5)")
            self.check(before, ["send 0 time"] if can else [], [] if can else ["send 0 time"])
            if can:
                told = run_script(lines(before, "send 0 time", "at (3 4 2) 0", "noise 2000 0", "hear"))
                self.assertEqual(told[1], f"at 0: time {7 * first + shift}")
        # Behind other records, the count is greater.
        before = lines("band 1 still", "code (2 3) 10 10", "beacon 0 10 0 -700 (3 4 5)")
        self.check(before, [], ["send 0 time"])
        self.check(lines(before, "tell 0 key (1 2)"), ["send 0 time"], [])

    def test_the_almanac(self):
        self.check(ONE, ["know 0", "forget 0"], ["know 1", "forget 1", "know -1", "forget -1"])
        self.check("band 0 still\ncode (2 3) 1 1", ["forget 0"], ["know 0", "forget 1"])
        base = lines(ONE, "at (3 4 2) 0", "noise 40 0", "box (3 3) (4 4) (2 2)")
        for commands, told in [([], "no orbit"), (["know 0"], "unread"), (["know 0", "forget 0"], "no orbit"),
                               (["know 0", "clock 0 0 -70 1"], "unread"), (["clock 0 0 -70 1", "know 0"], "none")]:
            self.assertEqual(run_script(lines(base, *commands, "noise 300 0", "states 250")), ["sender 0: " + told])
        # What is known is the orbit as it was.
        told = run_script(lines(base, "know 0", "orbit 0 0 999 (3 4 9) (0 0 0) (0 0 0)", "why 30 (3 4 2)"))
        self.assertEqual(told, ["depth 0 offset 0", "sender 0: 3"])

    def test_noise(self):
        self.check(ONE, ["noise 0 0", "noise 20000 0", "noise 1 1000000000"],
                   ["noise -1 0", "noise 20001 0", "noise 1 -1"])
        # Where no beacon is heard, and the least amplitude is small, the noise alone gives no starts.
        bands = [Settings([maximal_code((2, 3))], [(10, 10)], 1, False)]
        for size, seed in [(0, 0), (6, 0), (7, 0), (55, 3), (200, 11), (201, 12), (300, 10 ** 9)]:
            told = run_script(lines(ONE, "at (3 4 2) 0", f"noise {size} {seed}", "hear"))
            world = Sky(bands, 0, (0, 1), [Beacon(10, always(3, 4, 5), Clock(0, 0, 0), 0, 0, [])])
            one, = heard(bands, received(world, (3, 4, 2), 0, [written_noise(1, size, seed)]))
            self.assertEqual(told, [f"sender 0: {len(one.track)} starts 0 frames 0 records"])

    def test_the_noise_itself(self):
        """A beacon that is fainter than its band allows is heard only where the noise helps."""
        beacons = [Beacon(amplitude, always(3, 4, 5), Clock(0, 0, 0), 0, 0, [("key", 1, 2)]) for amplitude in (16, 6)]
        bands = [Settings([maximal_code((2, 3))], [(20, 20)], 5, False),
                 Settings([maximal_code((1, 3))], [(8, 8)], 2, False)]
        many = set()
        for seed in range(30):
            rows = received(Sky(bands, 0, (0, 1), beacons), (3, 4, 2), 0,
                            [written_noise(most, 700, seed) for most in (5, 2)])
            told = run_script(lines("band 5 still", "code (2 3) 20 20", "band 2 still", "code (1 3) 8 8",
                                    "beacon 0 16 0 0 (3 4 5)", "beacon 1 6 0 0 (3 4 5)", "tell 0 key (1 2)",
                                    "tell 1 key (1 2)", "at (3 4 2) 0", f"noise 700 {seed}", "hear", "states 650"))
            expected = [f"sender {k}: {len(one.track)} starts {len(one.frames)} frames {len(one.records)} records"
                        for k, one in enumerate(heard(bands, rows))]
            self.assertEqual([line for line in told[:-2] if line.startswith("sender")], expected)
            many.update(expected)
        self.assertGreater(len(many), 8)

    def test_where_the_receiver_is(self):
        base = lines(ONE, "noise 60 0", "know 0", "box (3 3) (4 4) (2 5)", "offsets -3 3")
        for place, told in [("(3 4 2) 0", 3), ("(3 4 2) 5", 1), ("(3 4 4) 9", 3), ("(3 4 5) 0", 0)]:
            self.assertEqual(run_script(lines(base, f"at {place}", "why 50 (3 4 5)")),
                             [f"depth 1 offset {told}", "sender 0: 0"])
        self.check(ONE, ["at (0 0 0) 0"], [])

    def test_the_problem(self):
        self.check(ONE, ["box (0 0) (0 0) (0 0)", "offsets 0 0", "offsets -5 9995", "faults 0"],
                   ["box (1 0) (0 0) (0 0)", "box (0 0) (1 0) (0 0)", "box (0 0) (0 0) (1 0)", "offsets 1 0",
                    "offsets -5 9996", "faults -1"])

    def test_samples_that_are_none(self):
        for command in ("states", "fix", "verdicts", "least"):
            self.check(ONE, [f"{command} 0", f"{command} 5"], [f"{command} -1"])
        self.check(ONE, ["why 0 (0 0 0)", "stop 0 0"], ["why -1 (0 0 0)", "stop 0 -1"])

    def test_places_outside_of_the_box(self):
        self.check(lines(ONE, "box (1 3) (-2 2) (5 5)"), ["why 0 (1 -2 5)", "why 0 (3 2 5)"],
                   ["why 0 (0 0 5)", "why 0 (4 0 5)", "why 0 (1 -3 5)", "why 0 (1 3 5)", "why 0 (1 0 4)",
                    "why 0 (1 0 6)"])

    def test_stops(self):
        self.check(lines("stop 0 0", "stop 7 0"), ["stop 8 0"], ["stop 7 0", "stop 6 0", "stop -1 0"])
        twenty = lines(*[f"stop {time} 0" for time in range(19)])
        self.check(twenty, ["stop 19 0"], [])
        self.check(lines(twenty, "stop 19 0"), ["kept 0 0 0"], ["stop 20 0"])

    def test_journeys(self):
        for command in ("kept", "moments"):
            self.check("stop 0 0", [f"{command} 0 0 0", f"{command} 5 5 5"],
                       [f"{command} -1 0 0", f"{command} 0 -1 0", f"{command} 0 0 -1", f"{command} 0 0 6"])

    def test_commands_that_answer_from_samples(self):
        answers = ["hear", "states 0", "fix 0", "why 0 (0 0 0)", "verdicts 0", "least 0", "stop 0 0"]
        others = ["kept 0 0 0", "moments 0 0 0"]
        self.check(lines(ONE, "noise 9 0"), answers + others, [])
        # The receiver at the origin, also where there is no sender.
        self.check(lines(ONE, "noise 9 0", "at (0 0 0) 0"), others, answers)
        self.check("at (0 0 0) 5", others, answers)
        # A start before the first sample, a position that is none, a step that is too long.
        self.check(lines(ONE, "at (3 4 2) -4"), others, answers)
        self.check(lines(ONE, "at (3 4 2) -3"), others + answers, [])
        self.check(lines(ONE, "at (3 4 2) 0", "orbit 0 1 999 (3 4 5) (0 0 0) (0 0 0)"), others, answers)
        self.check(lines(ONE, "at (3 4 2) 0", "orbit 0 0 20 (3 4 5) (0 0 0) (0 0 0)"), others, answers)
        self.check(lines(ONE, "at (3 4 2) 0", "orbit 0 0 900 (3 4 5) (0 0 1048576) (0 0 0)"), others, answers)
        # Where it is not heard, only its first position counts.
        self.check(lines(ONE, "at (3 4 9) -9", "orbit 0 0 20 (3 4 5) (0 0 0) (0 0 0)"), answers + others, [])
        # What could not be done may be done behind another command.
        self.assertEqual(run_script(lines("at (0 0 0) 0", "at (0 0 1) 0", "hear")), [])

    def test_what_is_heard_changes_with_each_command(self):
        base = lines(ONE, "at (3 4 2) 0", "noise 40 0", "hear")
        first = run_script(base)
        self.assertEqual(first, ["sender 0: 5 starts 0 frames 0 records"])
        for command, told in [("noise 41 0", 5), ("noise 47 0", 6), ("at (3 4 2) 7", 4), ("planet 99", 0),
                              ("mask 9 1", 0),
                              ("beacon 0 10 1 0 (3 4 5)", 4), ("clock 0 0 -7 0", 4), ("at (3 4 6) 0", 0),
                              ("orbit 0 0 900 (3 4 12) (0 0 0) (0 0 0)", 4), ("send 0 time", 5), ("know 0", 5)]:
            self.assertEqual(run_script(lines(base, command, "hear", "hear")),
                             first + [f"sender 0: {told} starts 0 frames 0 records"] * 2)


class ErrorsTest(ConsoleTest):
    def test_the_whole_text_is_parsed_first(self):
        self.fails("faults -1\nhear", 1)
        self.fails("faults -1\nHEAR", 2)
        self.fails("faults -1\n\nfaults -1\nfaults 0 0", 4)

    def test_the_first_command_that_cannot_be_done(self):
        self.fails("hear\n# two\n\nfaults -1\nplanet -1", 4)
        self.fails("hear\n\n\nplanet -1", 4)
        self.fails(lines("planet 5", "  # none", "send 0 time", "code (2 3) 1 1"), 3)


if __name__ == "__main__":
    unittest.main()
