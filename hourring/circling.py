"""Circulations: flows of a net that are worth as much as any, and the prices that show it."""


class Streams:
    """What flows in a net, and the ways that more can flow: way 2 * k along arc k, way 2 * k + 1 back."""

    def __init__(self, many, arcs):
        self.starts = []
        self.ends = []
        self.gains = []
        self.left = []
        self.leaving = [[] for _ in range(many)]
        self.prices = [0] * many
        self.surplus = [0] * many
        for start, end, room, gain in arcs:
            self._add_way(start, end, room, gain)
            self._add_way(end, start, 0, -gain)

    def _add_way(self, start, end, room, gain):
        self.leaving[start].append(len(self.starts))
        self.starts.append(start)
        self.ends.append(end)
        self.gains.append(gain)
        self.left.append(room)

    def gain_by_prices(self, way):
        """What a way gains when the prices at its two places are counted in."""
        return self.gains[way] - self.prices[self.starts[way]] + self.prices[self.ends[way]]

    def push(self, way, much):
        """Let so much more flow along a way: it can then flow back again."""
        self.left[way] -= much
        self.left[way ^ 1] += much
        self.surplus[self.starts[way]] -= much
        self.surplus[self.ends[way]] += much

    def settle(self, step):
        """Let flows go round such that no way that is left gains more than a step by the prices."""
        self._fill()
        while any([much > 0 for much in self.surplus]):
            for place in range(len(self.surplus)):
                self._drain(place, step)

    def _fill(self):
        """Fill all ways that gain. Behind this the flows need not go round."""
        for way in range(len(self.left)):
            if self.gain_by_prices(way) > 0:
                self.push(way, self.left[way])

    def _drain(self, place, step):
        """Send on what a place has too much of, and lower its price until all of it can go."""
        while self.surplus[place] > 0:
            for way in self.leaving[place]:
                if self.gain_by_prices(way) > 0:
                    self.push(way, min(self.surplus[place], self.left[way]))
            if self.surplus[place] > 0:
                self._lower(place, step)

    def _lower(self, place, step):
        """Lower a price so far that the best way from the place gains a step by it."""
        reach = [self.gains[way] + self.prices[self.ends[way]] for way in self.leaving[place] if self.left[way] > 0]
        self.prices[place] = max(reach) - step

    def walks(self):
        """The most that a walk from each place gains along the ways that are left; no ring of them may gain."""
        most = [0] * len(self.prices)
        # A walk without rings has fewer ways than there are places.
        for _ in range(len(most)):
            for way, start in enumerate(self.starts):
                if self.left[way] > 0:
                    most[start] = max(most[start], self.gains[way] + most[self.ends[way]])
        return most


def circulation(many, arcs):
    """Flows of a net that are worth as much as any, and prices that show it."""
    # A ring gains the same with the prices and without. Where no way that is left gains more than 1 by them, a
    # ring gains at most 1 for each of its ways, so many at most: with gains stretched beyond that, nothing at all.
    stretch = many + 1
    streams = Streams(many, [(start, end, room, gain * stretch) for start, end, room, gain in arcs])
    step = max([abs(gain) for gain in streams.gains], default=0)
    # Halved steps, and not a step of 1 at once, keep the work small whatever the rooms.
    while step > 1:
        step = (step + 1) // 2
        streams.settle(step)
    flows = [streams.left[2 * at + 1] for at in range(len(arcs))]
    walks = streams.walks()
    return flows, [(walk - walks[0]) // stretch for walk in walks]
