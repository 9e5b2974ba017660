"""The names, arguments and places of the document's interface."""

import importlib
import inspect
import unittest

FUNCTIONS = {
    "registers": ["step(taps, state)", "sequence(taps, state, count)", "period(taps, state)", "is_maximal(taps)",
                  "maximal_taps(n)", "complexity(bits)", "connection(bits)"],
    "codes": ["maximal_code(taps)", "even(a, b, k)", "odd(a, b, k)", "decimated(code, q)", "family(taps)", "bound(n)"],
    "samples": ["starts(stream)", "value(stream, t)", "samples(streams, noise)"],
    "margin": ["weight(a, b, length, offset)", "worst(a, b, moving)", "loud(settings, i)", "quiet(settings, i)",
               "margin(settings, i)"],
    "acquiring": ["correlation(samples, at, code)", "hits(samples, code, threshold)",
                  "follow(samples, code, at, threshold)", "tracks(samples, code, threshold)",
                  "acquired(settings, samples)"],
    "words": ["word_of(cell)", "read_word(bits)", "words_of(cells)", "read_words(bits)"],
    "framing": ["stuff(bits)", "unstuff(bits)", "stream_of(contents)", "frames_in(bits)"],
    "records": ["is_record(value)", "cells_of(record)", "read_record(cells)", "pages_of(record, number)",
                "contents_of(records, number)", "read_page(content)"],
    "orbits": ["position(orbit, t)", "is_seen(radius, p, q)", "is_above(mask, p, q)"],
    "clocks": ["reading(clock, t)", "time_of(clock, value)"],
    "boxes": ["root(n)", "distance(first, second)", "volume(box)", "is_inside(box, point)", "near_far(box, point)",
              "cut(box, axis, at)", "middle(box)"],
    "offsets": ["holds(observation, distance, offset)", "possible(observation, span, least, greatest)",
                "common(first, second)", "deepest(rows)", "at_least(rows, depth)"],
    "ranges": ["sent_at(clock, length, m)", "start_of(orbit, clock, length, m, point, offset)",
               "steps_of(orbit, clock, length, m, count, point, offset)",
               "observed(sender, orbit, clock, length, track, place, count, n)",
               "observed_unread(sender, orbit, clock, length, track, n)"],
    "fixing": ["senders(problem)", "rows(problem, box)", "reach(problem, box)", "is_solution(problem, point, offset)",
               "offsets_at(problem, point)", "places(problem)", "tree(problem)"],
    "faults": ["verdicts(problem)", "least_faults(problem)", "extent(problem)"],
    "judging": ["shown(problem, paper)", "shown_verdicts(problem, paper)", "faults_paper(problem)",
                "shows_faults(problem, faults, paper)"],
    "tracks": ["solutions(problem)", "is_linked(journey, elapsed, first, second)", "is_track(journey, track)",
               "kept(journey)", "fitting(journey, time, point, least, greatest)", "some_track(journey)",
               "track_through(journey, k, state)", "least_misses(journey)", "moment_verdicts(journey)"],
    "papers": ["out_paper(journey, time, state)", "shows_out(journey, time, state, paper)", "none_paper(journey)",
               "shows_none(journey, paper)", "misses_paper(journey)", "shows_misses(journey, misses, paper)"],
    "terms": ["can_make(known, term)", "parts_of_pairs(known)"],
    "later": ["hashed(term, count)"],
    "receiver": ["heard(bands, samples)", "told_at(one, length, n, known)", "observations(bands, almanac, samples, n)",
                 "problem_at(bands, almanac, samples, n, box, least, greatest, faults)"],
    "worlds": ["bits_of(beacon, length)", "is_honest(beacon)", "code_of(sky, number)", "is_heard(sky, number, point)",
               "stream_of_beacon(sky, number, point, offset)", "received(sky, point, offset, noises)",
               "is_within(sky, point, offset, noises)",
               "journey(sky, almanac, stops, box, least, greatest, faults)"],
    "explaining": ["excess(one, far, offset)", "account(problem, point)", "states(bands, almanac, samples, n)"],
    "scripts": ["parse_script(text)", "print_command(command)"],
    "console": ["run_script(text)"],
    "planning": ["is_confused(plan, choice, first, second)", "doubt(plan, choice, state)", "worst_doubt(plan, choice)",
                 "best(plan)", "bound(plan, number)", "is_bound(plan, number, paper)",
                 "shows_best(plan, choice, paper)"],
}
CLASSES = {
    "errors": ["RangekeepError(place)", "InvalidCode(place)", "InvalidBits(place)", "InvalidFrame(place)",
               "InvalidOrbit(place)", "TooMany(place)", "InvalidScript(place)"],
    "samples": ["Stream(code, amplitude, first, steps, bits)"],
    "margin": ["Settings(codes, amplitudes, noise, moving)"],
    "framing": ["Framer()"],
    "records": ["Collector()"],
    "orbits": ["Orbit(begin, end, place, speed, pull)"],
    "clocks": ["Clock(begin, offset, drift)"],
    "offsets": ["Observation(sender, point, reading, slack, modulus)"],
    "fixing": ["Problem(observations, box, least, greatest, faults)"],
    "tracks": ["Journey(moments, speed, drift, misses)", "Tracker(speed, drift, misses)"],
    "later": ["Chain(seed, length)", "KeySender(chain, step, delay)",
              "KeyReceiver(anchor, length, step, delay, error)"],
    "receiver": ["Heard(track, frames, records)"],
    "worlds": ["Beacon(amplitude, orbit, clock, first, shift, records)", "Sky(bands, radius, mask, beacons)"],
    "planning": ["Plan(points, box, least, greatest, slack, count)"],
}
METHODS = {
    ("samples", "Stream"): ["__init__(self, code, amplitude, first, steps, bits)", "__eq__(self, other)"],
    ("margin", "Settings"): ["__init__(self, codes, amplitudes, noise, moving)", "__eq__(self, other)"],
    ("framing", "Framer"): ["__init__(self)", "feed(self, bits)"],
    ("records", "Collector"): ["__init__(self)", "take(self, content)"],
    ("orbits", "Orbit"): ["__init__(self, begin, end, place, speed, pull)", "__eq__(self, other)"],
    ("clocks", "Clock"): ["__init__(self, begin, offset, drift)", "__eq__(self, other)"],
    ("offsets", "Observation"): ["__init__(self, sender, point, reading, slack, modulus)", "__eq__(self, other)"],
    ("fixing", "Problem"): ["__init__(self, observations, box, least, greatest, faults)", "__eq__(self, other)"],
    ("tracks", "Journey"): ["__init__(self, moments, speed, drift, misses)", "__eq__(self, other)"],
    ("tracks", "Tracker"): ["__init__(self, speed, drift, misses)", "take(self, time, problem)", "journey(self)"],
    ("later", "Chain"): ["__init__(self, seed, length)", "key(self, i)", "anchor(self)"],
    ("later", "KeySender"): ["__init__(self, chain, step, delay)", "tag(self, time, message)", "key(self, time)"],
    ("later", "KeyReceiver"): ["__init__(self, anchor, length, step, delay, error)", "hear(self, reading, packet)",
                               "latest(self)", "kept(self)"],
    ("receiver", "Heard"): ["__init__(self, track, frames, records)", "__eq__(self, other)"],
    ("worlds", "Beacon"): ["__init__(self, amplitude, orbit, clock, first, shift, records)", "__eq__(self, other)"],
    ("worlds", "Sky"): ["__init__(self, bands, radius, mask, beacons)"],
    ("planning", "Plan"): ["__init__(self, points, box, least, greatest, slack, count)", "__eq__(self, other)"],
}


class InterfaceTest(unittest.TestCase):
    def check(self, found, told, module):
        name = told.partition("(")[0]
        self.assertEqual(name + str(inspect.signature(found)), told)
        self.assertEqual(found.__module__, f"rangekeep.{module}")

    def test_functions_and_classes(self):
        for table in (FUNCTIONS, CLASSES):
            for module, rows in table.items():
                for told in rows:
                    with self.subTest(module=module, told=told):
                        found = getattr(importlib.import_module(f"rangekeep.{module}"), told.partition("(")[0])
                        self.assertIs(inspect.isclass(found), table is CLASSES)
                        self.check(found, told, module)

    def test_methods_stand_in_their_class(self):
        for (module, name), rows in METHODS.items():
            owner = getattr(importlib.import_module(f"rangekeep.{module}"), name)
            for told in rows:
                with self.subTest(module=module, told=told):
                    self.check(vars(owner)[told.partition("(")[0]], told, module)


if __name__ == "__main__":
    unittest.main()
