"""Chains: segments (net, peak, steps) that are done one after another."""

from roomprofile.integers import is_integer


def are_segments(values):
    """Whether all these values are segments."""
    return all([_is_segment(value) for value in values])


def whole(segments):
    """The net, the peak and the steps of the chain: a segment, unless the chain is empty."""
    usage = 0
    peak = 0
    steps = 0
    for net, segment_peak, segment_steps in segments:
        peak = max(peak, usage + segment_peak)
        usage += net
        steps += segment_steps
    return (usage, peak, steps)


def start_marks(segments):
    """The rows (capacity, usage, boundary) of the start valleys of the chain.

    The boundary is the first one with the usage; it is the number of segments before it.
    """
    usage = 0
    reach = 0
    marks = [(0, 0, 0)]
    for place, (net, peak, _) in enumerate(segments):
        reach = max(reach, usage + peak)
        usage += net
        _note(marks, (reach, usage, place + 1))
    return marks


def end_marks(segments):
    """The rows (capacity, usage, boundary) of the end valleys of the chain.

    The boundary is the last one with the usage; it is the number of segments before it.
    """
    usage = whole(segments)[0]
    reach = usage
    marks = [(usage, usage, len(segments))]
    for place in reversed(range(len(segments))):
        net, peak, _ = segments[place]
        usage -= net
        reach = max(reach, usage + peak)
        _note(marks, (reach, usage, place))
    return marks


def valleys_of(marks):
    """The valleys, of any length, whose pairs have these marks."""
    return tuple([(capacity, usage) for capacity, usage, _ in marks])


def _note(marks, mark):
    """Adds a mark if its usage is the lowest so far; its capacity is the greatest so far."""
    if mark[1] < marks[-1][1]:
        if mark[0] == marks[-1][0]:
            marks.pop()
        marks.append(mark)


def _is_segment(value):
    if not isinstance(value, tuple) or len(value) != 3 or not all([is_integer(part) for part in value]):
        return False
    net, peak, steps = value
    return peak >= max(0, net) and steps >= 1
