"""Fronts: the states that tracks can have at known moments, one moment after another."""

from rangekeep.offsets import at_least
from rangekeep.statesets import near_offsets, near_state, search_tree
from rangekeep.units import in_units


def leeway(journey, elapsed):
    """Return how far the coordinates and how far the offsets of linked states may be from one another."""
    return in_units(journey.speed * elapsed), in_units(journey.drift * elapsed)


def linked_offsets(journey, tree, elapsed, point, wanted):
    """Return those of the wanted offsets with which a point is linked with some state of a search tree."""
    if tree is None:
        return []
    far, apart = leeway(journey, elapsed)
    return near_offsets(tree, tuple([(at - far, at + far) for at in point]), apart, wanted)


class Front:
    """Tells which states of known moments end a track of the moments that were met up to them.

    The times of the moments all ascend, or all descend. Each state is linked
    only with the one before it: links that follow one another make one link.
    """

    def __init__(self, journey):
        self._journey = journey
        self._times = []
        self._sets = []
        # By the index of a moment and a number of misses: its states, and their search tree.
        self._layers = {}

    def meet(self, time, states):
        """Meet the next known moment, with the set of its solutions."""
        self._times.append(time)
        self._sets.append(states)

    def many(self):
        """Return how many moments were met."""
        return len(self._times)

    def layer(self, k, missed):
        """Return the states of a moment that end a track which misses at most so many moments before it."""
        states, _ = self._layer(k, missed)
        return states

    def _layer(self, k, missed):
        place = (k, min(k, missed))
        if place not in self._layers:
            self._layers[place] = self._made(k, missed)
        return self._layers[place]

    def _made(self, k, missed):
        states = self._sets[k]
        if missed >= k:
            return states, search_tree(states)
        # What fewer misses lead to is led to by more of them, and needs no search.
        fewer = {point: offsets for point, offsets in self.layer(k, missed - 1)} if missed > 0 else {}
        told = []
        for point, offsets in states:
            found = offsets
            if fewer.get(point) != offsets:
                found = self.offsets(k, self._times[k], point, missed, offsets)
            if found:
                told.append((point, found))
        # A large tree is not made again if all states remain.
        return self._layer(k, k) if told == states else (told, search_tree(told))

    def offsets(self, many, time, point, missed, wanted):
        """Return those of the wanted offsets with which a point at a time goes on from the first moments.

        It does if a track of them that misses at most so many of them ends with
        a state with which it is linked, or has no states.
        """
        if missed >= many:
            return wanted
        told = []
        for k, left in _last_states(many, missed):
            if told != wanted:
                _, tree = self._layer(k, left)
                found = linked_offsets(self._journey, tree, abs(time - self._times[k]), point, wanted)
                told = at_least([told, found], 1)
        return told

    def way(self, many, time, state, missed):
        """Return a track of the first moments from which a state at a time goes on, or None if there is none.

        The track is a list of states, or None for moments that it misses, at most so many.
        """
        told = [None] * many
        while many > missed:
            before = self._state_before(many, time, state, missed)
            if before is None:
                return None
            many, missed, state = before
            time = self._times[many]
            told[many] = state
        return told

    def _state_before(self, many, time, state, missed):
        """Return the index of the last moment that is not missed, the misses before it, and its state; or None."""
        for k, left in _last_states(many, missed):
            far, apart = leeway(self._journey, abs(time - self._times[k]))
            found = near_state(self.layer(k, left), state, far, apart)
            if found is not None:
                return k, left, found
        return None

    def some_way(self, many, missed):
        """Return a track of the first moments that misses at most so many of them, or None if there is none.

        There is none that misses less than 0 of them.
        """
        if missed >= many:
            return [None] * many
        for k, left in _last_states(many, missed):
            states = self.layer(k, left)
            if states:
                point, offsets = states[0]
                state = (point, offsets[0][0])
                return self.way(k, self._times[k], state, left) + [state] + [None] * (many - 1 - k)
        return None


def _last_states(many, missed):
    """Return which moments can be the last one that is not missed, each with the number of misses before it.

    There are more moments than misses; the last ones come first.
    """
    return [(many - 1 - behind, missed - behind) for behind in range(missed + 1)]
