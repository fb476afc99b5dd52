"""Doing the steps of a small job, one after another."""

from roomprofile.jobs.addresses import is_index_tuple, step_rows


class DoneSteps:
    """The done steps of a small job, none at first, and the usages on the way to them.

    `rows` has all steps by ascending addresses, `done` the addresses of the done ones, and `below`
    how many done steps share the beginning of an address, where a gate asks for it.
    """

    def __init__(self, job):
        self.rows = {address: (step, gates) for address, step, gates in step_rows(job)}
        self.done = {}
        self.below = {}
        self.usages = [0]

    def may_do(self, address):
        """Whether the address (any value) is that of an available step."""
        if not is_index_tuple(address) or address not in self.rows or address in self.done:
            return False
        gates = self.rows[address][1]
        return all([self.below.get(address[:level], 0) >= least for level, least in gates])

    def do_step(self, address):
        """Does the available step at the address."""
        step, gates = self.rows[address]
        for level, _ in gates:
            around = address[:level]
            self.below[around] = self.below.get(around, 0) + 1
        self.done[address] = True
        self.usages.append(self.usages[-1] + step)

    def undo_step(self, address):
        """Takes back the last done step, which is the one at the address."""
        for level, _ in self.rows[address][1]:
            self.below[address[:level]] -= 1
        del self.done[address]
        del self.usages[-1]

    def do_all(self, addresses):
        """Does the steps of a run and returns whether the addresses (any value) are one from here on."""
        if not isinstance(addresses, tuple):
            return False
        for address in addresses:
            if not self.may_do(address):
                return False
            self.do_step(address)
        return True

    def is_complete(self):
        """Whether all steps are done."""
        return len(self.done) == len(self.rows)
