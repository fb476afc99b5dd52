"""The joint lows of start valleys side by side."""

from heapq import heappop, heappush


class Descent:
    """The joint lows of start valleys, which go down as the capacity grows."""

    def __init__(self, parts):
        self.parts = parts
        self.places = [0] * len(parts)
        self.total = sum([part[0][1] for part in parts])
        self.climbs = []
        for index in range(len(parts)):
            self.queue_climb(index)

    def queue_climb(self, index):
        """Notes how far a part must climb from its low to reach its next one."""
        part = self.parts[index]
        place = self.places[index]
        if place + 1 < len(part):
            # Seen from the low itself, the climb stays the same when the other parts go down.
            heappush(self.climbs, (part[place + 1][0] - part[place][1], index))

    def next_capacity(self):
        """The least capacity at which a low goes further down, if one can."""
        return self.total + self.climbs[0][0]

    def go_down(self, capacity):
        """Takes all lows down as far as the capacity allows."""
        while self.climbs and self.next_capacity() <= capacity:
            index = heappop(self.climbs)[1]
            part = self.parts[index]
            place = self.places[index] + 1
            self.places[index] = place
            self.total += part[place][1] - part[place - 1][1]
            self.queue_climb(index)

    def lows(self):
        """The lows of all parts."""
        return tuple([part[place][1] for part, place in zip(self.parts, self.places)])


def joint_pairs(parts):
    """The pairs of the joint valleys of start valleys; there may be any number of them."""
    descent = Descent(parts)
    descent.go_down(0)
    pairs = [(0, descent.total)]
    while descent.climbs:
        capacity = descent.next_capacity()
        descent.go_down(capacity)
        pairs.append((capacity, descent.total))
    return tuple(pairs)
