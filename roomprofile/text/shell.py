"""A shell: commands and results are strings."""

from roomprofile.errors import InvalidCommand
from roomprofile.keeper.keeper import Keeper
from roomprofile.library.library import Library
from roomprofile.text.commands import LIBRARY_ACTIONS, OK, act_on_keeper, act_on_library, read_command


class Shell:
    """A library, at most one keeper, and the number of commands that were run."""

    def __init__(self):
        self.own_library = Library()
        self.own_keeper = None
        self.commands = 0

    def library(self):
        """The library itself."""
        return self.own_library

    def keeper(self):
        """The keeper itself, or None if there is none."""
        return self.own_keeper

    def run(self, command):
        """Runs the command and returns its result."""
        self.commands += 1
        word, values = read_command(command)
        if word == "keeper":
            self.own_keeper = Keeper(values[0])
            return OK
        if word in LIBRARY_ACTIONS:
            return act_on_library(word, self.own_library, values)
        if self.own_keeper is None:
            raise InvalidCommand("there is no keeper")
        if word == "admit":
            name = values[0]
            self.own_keeper.admit(name, self.own_library.expand(name))
            return OK
        return act_on_keeper(word, self.own_keeper, values)

    def run_all(self, commands):
        """Runs the commands in order and returns their results."""
        if not isinstance(commands, tuple):
            raise InvalidCommand("this is not a tuple of commands")
        results = []
        for command in commands:
            results.append(self.run(command))
        return tuple(results)

    def __len__(self):
        return len(range(self.commands))

    def __str__(self):
        return f"shell with {self.commands} commands"

    def __eq__(self, value):
        if not isinstance(value, Shell):
            return False
        return self.own_library == value.own_library and self.own_keeper == value.own_keeper
