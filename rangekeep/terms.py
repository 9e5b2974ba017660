"""Terms: what is sent, and what somebody who knows some terms can make."""

# Words that everybody knows need no parts, and seeds have none.
WORD = "word"
SEED = "seed"
PAIR = "pair"


def can_make(known, term):
    """Tell whether a term can be made from known terms."""
    told = parts_of_pairs(known)
    # All terms of this list must be made; the parts of those that are not known stand behind them.
    needed = [term]
    at = 0
    while at < len(needed):
        one = needed[at]
        at += 1
        if one[0] != WORD and one not in told:
            if one[0] == SEED:
                return False
            needed.extend([part for part in one[1:] if part not in needed])
    return True


def parts_of_pairs(known):
    """Return the known terms and all parts of pairs among them, each once, in the order in which they are met."""
    told = []
    # The terms that are still to be met, the next one last.
    ahead = list(reversed(known))
    while ahead:
        term = ahead.pop()
        if term not in told:
            told.append(term)
            if term[0] == PAIR:
                _, first, second = term
                ahead.extend([second, first])
    return told
