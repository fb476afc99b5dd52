"""The runs that plans determine, as stretches of inner runs, so that no step has to be gone through.

The functions expect positions, counts and addresses within the runs.
"""

from roomprofile.plans.chains import whole


class Stretch:
    """Consecutive steps of an inner run, done so many times, one time after another.

    `begin` is the position of the first of them in the inner run, `once` the segment of doing them
    one time, and `index` that of the part, round or copy that does them first. The index is None if
    they are steps of the same job, and the inner run is None if they are the one step of a step.
    """

    def __init__(self, inner, begin, once, times, index):
        self.inner = inner
        self.begin = begin
        self.once = once
        self.times = times
        self.index = index

    def segment(self):
        """The net, the peak and the number of steps of the stretch."""
        net, peak, steps = self.once
        more = (self.times - 1) * net
        return (net + more, peak + max(0, more), self.times * steps)

    def address_at(self, offset):
        """The address of the step before which so many steps of the stretch are done."""
        if self.inner is None:
            return ()
        time, rest = divmod(offset, self.once[2])
        inner_address = self.inner.address_at(self.begin + rest)
        return inner_address if self.index is None else (self.index + time,) + inner_address

    def has_index(self, address):
        """Whether the stretch may have this address, by its first index."""
        return self.index is None or self.index <= address[0] < self.index + self.times

    def inner_place(self, address):
        """The position in the inner run of a step at this address."""
        return self.inner.place_of(address if self.index is None else address[1:])

    def offset_of(self, address, place):
        """How many steps of the stretch are before the step at this address, or None if it is not in the stretch.

        The place of the step in the inner run is given, too.
        """
        steps = self.once[2]
        if not self.begin <= place < self.begin + steps:
            return None
        time = 0 if self.index is None else address[0] - self.index
        return time * steps + place - self.begin

    def usage_after(self, count):
        """The usage after so many steps of the stretch, relative to its begin."""
        time, rest = divmod(count, self.once[2])
        usage = time * self.once[0]
        if rest > 0:
            usage += self.inner.usage_after(self.begin + rest) - self.inner.usage_after(self.begin)
        return usage

    def peak_within(self, first, last):
        """The greatest usage from one count of steps of the stretch to another one, relative to its begin."""
        if first == last:
            return self.usage_after(first)
        net, peak, steps = self.once
        first_time, first_rest = divmod(first, steps)
        last_time, last_rest = divmod(last, steps)
        if first_time == last_time:
            return first_time * net + self._inner_peak(first_rest, last_rest)
        peaks = []
        if first_rest > 0:
            peaks.append(first_time * net + self._inner_peak(first_rest, steps))
            first_time += 1
        if first_time < last_time:
            peaks.append(peak + max(first_time * net, (last_time - 1) * net))
        if last_rest > 0:
            peaks.append(last_time * net + self._inner_peak(0, last_rest))
        return max(peaks)

    def _inner_peak(self, first, last):
        """The greatest usage within one time, relative to the begin of this time."""
        return self.inner.peak_within(self.begin + first, self.begin + last) - self.inner.usage_after(self.begin)


class PlannedRun:
    """The run of a plan: its stretches, its chain, and the steps and the usage before each stretch."""

    def __init__(self, stretches):
        self.stretches = stretches
        self.chain = tuple([stretch.segment() for stretch in stretches])
        self.steps_before = [0]
        self.usages_before = [0]
        for net, _, steps in self.chain:
            self.steps_before.append(self.steps_before[-1] + steps)
            self.usages_before.append(self.usages_before[-1] + net)

    def steps(self):
        """The number of steps of the run."""
        return self.steps_before[-1]

    def stretch_at(self, position):
        """The index of the stretch with the step at this position; the last one behind the last step."""
        low = 0
        high = len(self.stretches) - 1
        while low < high:
            middle = (low + high + 1) // 2
            if self.steps_before[middle] <= position:
                low = middle
            else:
                high = middle - 1
        return low

    def address_at(self, position):
        """The address of the step at this position."""
        at = self.stretch_at(position)
        return self.stretches[at].address_at(position - self.steps_before[at])

    def place_of(self, address):
        """The position of the step at this address."""
        if address == ():
            return 0
        place = None
        for at, stretch in enumerate(self.stretches):
            if not stretch.has_index(address):
                continue
            if place is None:
                # All stretches with this index have the same inner run.
                place = stretch.inner_place(address)
            offset = stretch.offset_of(address, place)
            if offset is not None:
                return self.steps_before[at] + offset
        return None

    def usage_after(self, count):
        """The usage after so many steps."""
        if not self.stretches:
            return 0
        at = self.stretch_at(count)
        return self.usages_before[at] + self.stretches[at].usage_after(count - self.steps_before[at])

    def peak_within(self, first, last):
        """The greatest usage from one count of steps to another one."""
        if not self.stretches:
            return 0
        begin = self.stretch_at(first)
        end = self.stretch_at(last)
        if begin == end:
            return self._peak_of_part(begin, first, last)
        peaks = [self.usages_before[at] + self.chain[at][1] for at in range(begin + 1, end)]
        peaks.append(self._peak_of_part(begin, first, self.steps_before[begin + 1]))
        peaks.append(self._peak_of_part(end, self.steps_before[end], last))
        return max(peaks)

    def _peak_of_part(self, at, first, last):
        """The greatest usage between two counts of steps that are both within one stretch."""
        before = self.steps_before[at]
        return self.usages_before[at] + self.stretches[at].peak_within(first - before, last - before)


def step_run(step):
    """The run of a step."""
    return PlannedRun([Stretch(None, 0, (step, max(0, step), 1), 1, None)])


def parts_run(parts, order):
    """The run of parts whose stretches are done in this order of the parts' indices."""
    done = [0] * len(parts)
    stretches = []
    for index in order:
        stretches.append(_taken(parts[index], done[index], 1, index))
        done[index] += 1
    return PlannedRun(stretches)


def order_in_turn(parts):
    """The order of the parts' indices in which one part is done after another."""
    return [index for index, part in enumerate(parts) for _ in part.chain]


def copies_run(n, inner):
    """The run of n copies, all of which do one stretch of the inner run after another."""
    places = range(len(inner.chain) if n > 0 else 0)
    return PlannedRun([_taken(inner, at, n, 0) for at in places])


def rounds_run(n, inner):
    """The run of n rounds: the stretches of the first and of the last one, and one stretch between them."""
    if n == 0 or not inner.chain:
        return PlannedRun([])
    places = range(len(inner.chain))
    stretches = [_taken(inner, at, 1, 0) for at in places]
    if n > 2:
        stretches.append(Stretch(inner, 0, whole(inner.chain), n - 2, 1))
    if n > 1:
        stretches.extend([_taken(inner, at, 1, n - 1) for at in places])
    return PlannedRun(stretches)


def joined_run(sizes, inner):
    """The inner run, with groups of so many of its stretches as stretches."""
    stretches = []
    first = 0
    for size in sizes:
        group = whole(inner.chain[first:first + size])
        stretches.append(Stretch(inner, inner.steps_before[first], group, 1, None))
        first += size
    return PlannedRun(stretches)


def _taken(inner, at, times, index):
    """A stretch of the inner run, done so many times."""
    return Stretch(inner, inner.steps_before[at], inner.chain[at], times, index)
