"""Jobs with what floors and barriers have to know of every job within them."""

from roomprofile.integers import is_integer
from roomprofile.profiles.basic import of_step
from roomprofile.profiles.composed import composed, multiplied


class Weighed:
    """A job with its net and its lowest usage, and likewise all jobs within it.

    `parts` are the weighed parts of a "seq" or "par", or the one inner job of a "repeat" or "copies",
    and `n` is the number of rounds or copies. Mirror and profile are made when they are asked for.
    """

    def __init__(self, kind, n, parts, total, low):
        self.kind = kind
        self.n = n
        self.parts = parts
        self.total = total
        self.low = low
        self.made_mirror = None
        self.made_profile = None

    def mirror_image(self):
        """The weighed mirror of the job."""
        if self.made_mirror is None:
            parts = [part.mirror_image() for part in self.parts]
            ordered = parts[::-1] if self.kind == "seq" else parts
            image = Weighed(self.kind, self.n, ordered, -self.total, self.low - self.total)
            image.made_mirror = self
            self.made_mirror = image
        return self.made_mirror

    def find_profile(self):
        """The profile of the job."""
        if self.made_profile is None:
            self.made_profile = self._compose_profile()
        return self.made_profile

    def _compose_profile(self):
        if self.kind == "step":
            return of_step(self.total)
        profiles = [part.find_profile() for part in self.parts]
        if self.kind in ("seq", "par"):
            return composed(self.kind, profiles)
        return multiplied(self.kind, self.n, profiles[0])


def weighed(job):
    """The weighed job, for what is built like a job, whatever its size."""
    if is_integer(job):
        return Weighed("step", 1, [], job, min(0, job))
    if job[0] in ("seq", "par"):
        return _weighed_parts(job[0], [weighed(part) for part in job[1]])
    inner = weighed(job[2])
    n = job[1]
    if n == 0:
        return Weighed(job[0], 0, [inner], 0, 0)
    more = min(0, inner.total) if job[0] == "repeat" else inner.low
    return Weighed(job[0], n, [inner], n * inner.total, inner.low + (n - 1) * more)


def _weighed_parts(kind, parts):
    total = sum([part.total for part in parts])
    if kind == "par":
        return Weighed(kind, 1, parts, total, sum([part.low for part in parts]))
    lows = [before + part.low for before, part in zip(totals_before(parts), parts)]
    return Weighed(kind, 1, parts, total, min([0] + lows))


def totals_before(parts):
    """The nets before each of these weighed parts of a sequence."""
    before = []
    total = 0
    for part in parts:
        before.append(total)
        total += part.total
    return before
