import copy
import random
import unittest

from rangekeep.terms import can_make, parts_of_pairs

KINDS = ("word", "seed", "pair", "hash", "mark")


def random_term(rng, deep):
    kind = rng.choice(KINDS if deep else KINDS[:2])
    if kind in ("word", "seed"):
        return kind, rng.randint(0, 2)
    return (kind,) + tuple(random_term(rng, deep - 1) for _ in range(1 if kind == "hash" else 2))


def subterms(term):
    """A term and all terms in it, the innermost ones first."""
    told = []
    for part in term[1:]:
        if isinstance(part, tuple):
            told += subterms(part)
    return told + [term]


def made_from(known, term):
    """Point 19.2, by adding what can be made as long as there is more, among all terms that occur."""
    terms = [part for one in known + [term] for part in subterms(one)]
    made = list(known) + [one for one in terms if one[0] == "word"]
    # Both parts of a pair are got by knowing it, which are the pairs of those that are known.
    known_pairs = list(known)
    grows = True
    while grows:
        grows = False
        for one in list(known_pairs):
            if one[0] == "pair":
                for part in one[1:]:
                    if part not in known_pairs:
                        known_pairs.append(part)
                        grows = True
    made += known_pairs
    grows = True
    while grows:
        grows = False
        for one in terms:
            if one not in made and one[0] in ("pair", "hash", "mark") and all(part in made for part in one[1:]):
                made.append(one)
                grows = True
    return term in made


WORD, SEED, OTHER = ("word", 3), ("seed", 1), ("seed", 2)


class CanMakeTest(unittest.TestCase):
    def check(self, known, term, told):
        self.assertIs(can_make(known, term), told)
        self.assertEqual(made_from(known, term), told)

    def test_words(self):
        self.check([], WORD, True)
        self.check([SEED], ("word", 0), True)
        self.check([], ("pair", WORD, ("hash", WORD)), True)
        self.check([], ("mark", WORD, ("word", 9)), True)

    def test_what_is_known(self):
        for term in (SEED, ("hash", SEED), ("mark", SEED, WORD), ("pair", SEED, WORD), ("hash", ("hash", OTHER))):
            self.check([term], term, True)
            self.check([], term, False)
            self.check([OTHER, term], term, True)

    def test_seeds(self):
        self.check([("hash", SEED)], SEED, False)
        self.check([("mark", SEED, WORD)], SEED, False)
        self.check([("mark", WORD, SEED)], SEED, False)
        self.check([OTHER], SEED, False)
        self.check([("pair", SEED, OTHER)], SEED, True)
        self.check([("pair", OTHER, SEED)], SEED, True)

    def test_parts_of_pairs_in_pairs(self):
        deep = ("pair", ("pair", WORD, ("pair", ("hash", SEED), OTHER)), ("hash", OTHER))
        self.check([deep], ("hash", SEED), True)
        self.check([deep], OTHER, True)
        self.check([deep], SEED, False)
        # A pair in a hash, or in a mark, does not come out.
        self.check([("hash", ("pair", SEED, WORD))], SEED, False)
        self.check([("mark", WORD, ("pair", SEED, WORD))], SEED, False)
        self.check([("pair", ("hash", ("pair", SEED, WORD)), WORD)], SEED, False)

    def test_pairs_hashes_and_marks_of_what_can_be_made(self):
        self.check([SEED], ("hash", ("hash", SEED)), True)
        self.check([("hash", SEED)], ("hash", ("hash", ("hash", SEED))), True)
        self.check([SEED, OTHER], ("pair", ("hash", OTHER), SEED), True)
        self.check([SEED], ("pair", SEED, OTHER), False)
        self.check([SEED], ("pair", OTHER, SEED), False)
        self.check([SEED], ("mark", SEED, WORD), True)
        self.check([OTHER], ("mark", SEED, WORD), False)
        self.check([SEED], ("mark", SEED, OTHER), False)
        self.check([SEED], ("mark", ("hash", SEED), ("pair", SEED, ("mark", SEED, WORD))), True)
        self.check([("hash", ("hash", SEED))], ("hash", SEED), False)

    def test_many_random_terms(self):
        rng = random.Random(192)
        many = {}
        for _ in range(4000):
            known = [random_term(rng, rng.randint(0, 3)) for _ in range(rng.randint(0, 3))]
            term = random_term(rng, rng.randint(0, 3))
            told = made_from(known, term)
            self.assertIs(can_make(known, term), told)
            many[told] = many.get(told, 0) + 1
        self.assertGreater(min(many.values()), 900)

    def test_terms_that_lie_deep(self):
        chain = SEED
        for _ in range(60):
            chain = ("hash", chain)
        self.assertIs(can_make([SEED], chain), True)
        self.assertIs(can_make([OTHER, ("hash", OTHER)], chain), False)
        for kind in ("pair", "mark"):
            broad = SEED
            for _ in range(60):
                broad = (kind, broad, broad)
            self.assertIs(can_make([SEED], broad), True)
            self.assertIs(can_make([OTHER], broad), False)
            self.assertIs(can_make([broad], SEED), kind == "pair")


class PartsOfPairsTest(unittest.TestCase):
    def test_the_order(self):
        a, b, c, d = [("seed", n) for n in range(4)]
        self.assertEqual(parts_of_pairs([]), [])
        self.assertEqual(parts_of_pairs([b, a]), [b, a])
        inner = ("pair", b, c)
        outer = ("pair", inner, d)
        self.assertEqual(parts_of_pairs([a, outer]), [a, outer, inner, b, c, d])
        self.assertEqual(parts_of_pairs([("pair", a, inner)]), [("pair", a, inner), a, inner, b, c])

    def test_each_once(self):
        a, b = ("seed", 0), ("word", 0)
        self.assertEqual(parts_of_pairs([a, a, b, a]), [a, b])
        self.assertEqual(parts_of_pairs([("pair", a, a), a]), [("pair", a, a), a])
        twice = ("pair", ("pair", a, b), ("pair", a, b))
        self.assertEqual(parts_of_pairs([b, twice]), [b, twice, ("pair", a, b), a])
        self.assertEqual(parts_of_pairs([("pair", b, ("pair", a, b)), ("pair", a, b)]),
                         [("pair", b, ("pair", a, b)), b, ("pair", a, b), a])

    def test_hashes_and_marks_are_not_opened(self):
        a = ("seed", 0)
        for term in (("hash", ("pair", a, a)), ("mark", ("pair", a, a), a)):
            self.assertEqual(parts_of_pairs([term]), [term])
            self.assertEqual(parts_of_pairs([("pair", term, a)]), [("pair", term, a), term, a])

    def test_pairs_that_lie_deep(self):
        broad = ("seed", 0)
        rows = [broad]
        for _ in range(60):
            broad = ("pair", broad, broad)
            rows.append(broad)
        self.assertEqual(len(parts_of_pairs([broad])), 61)
        self.assertEqual(parts_of_pairs([broad])[-1], ("seed", 0))

    def test_the_arguments_are_as_before(self):
        known = [("pair", ("seed", 0), ("word", 1)), ("seed", 2)]
        before = copy.deepcopy(known)
        parts_of_pairs(known).append("x")
        can_make(known, ("seed", 0))
        self.assertEqual(known, before)


if __name__ == "__main__":
    unittest.main()
