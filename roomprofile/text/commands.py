"""The commands of a shell: their forms, and what they do."""

from roomprofile.decisions.certificates import certificate
from roomprofile.errors import InvalidCommand, ParseError
from roomprofile.exchange.compare import is_at_most
from roomprofile.integers import is_integer, is_within
from roomprofile.names import is_name
from roomprofile.text.formats import definition_text, job_text, paper_text, parse_definition, parse_paper, profile_text

MAX_GRANTS = 400

OK = "ok"
NOTHING = "-"

# The kinds of the words behind the first word of each command.
FORMS = {
    "define": ("name", "definition"),
    "redefine": ("name", "definition"),
    "remove": ("name",),
    "revert": (),
    "names": (),
    "definition": ("name",),
    "profile": ("name",),
    "capacity": ("name",),
    "steps": ("name",),
    "replaces": ("name", "name"),
    "certificate": ("name", "capacity"),
    "keeper": ("capacity",),
    "admit": ("name",),
    "grant": ("name", "choice"),
    "refusal": ("name", "choice"),
    "grantable": (),
    "next": (),
    "finish": ("count",),
    "remaining": ("name",),
    "usage": (),
    "need": (),
    "limit": (),
    "resize": ("capacity",),
    "dismiss": ("name",),
    "undo": (),
}


def _define(library, name, definition):
    library.define(name, definition)
    return OK


def _redefine(library, name, definition):
    library.redefine(name, definition)
    return OK


def _remove(owner, name):
    owner.remove(name)
    return OK


def _undo(owner):
    owner.undo()
    return OK


def _names(library):
    return ",".join(library.names()) or NOTHING


def _definition(library, name):
    return definition_text(library.definition(name))


def _profile(library, name):
    return profile_text(library.profile(name))


def _capacity(library, name):
    return str(library.least_capacity(name))


def _steps(library, name):
    return str(library.step_count(name))


def _replaces(library, first, second):
    profile = library.profile(first)
    return "yes" if is_at_most(profile, library.profile(second)) else "no"


def _certificate(library, name, capacity):
    return paper_text(certificate(library.expand(name), capacity))


def _grant(keeper, name, choice):
    return str(keeper.grant(name, choice))


def _refusal(keeper, name, choice):
    return paper_text(keeper.refusal(name, choice))


def _grantable(keeper):
    return ", ".join([_step_text(pair) for pair in keeper.grantable()]) or NOTHING


def _next_grant(keeper):
    pair = keeper.next_grant()
    return paper_text(None) if pair is None else _step_text(pair)


def _finish(keeper, count):
    granted = 0
    pair = keeper.next_grant() if count > 0 else None
    while pair is not None:
        keeper.grant(pair[0], pair[1])
        granted += 1
        pair = keeper.next_grant() if granted < count else None
    return str(granted)


def _remaining(keeper, name):
    return job_text(keeper.remaining(name))


def _usage(keeper):
    return str(keeper.usage())


def _need(keeper):
    return str(keeper.need())


def _limit(keeper):
    return str(keeper.capacity())


def _resize(keeper, capacity):
    keeper.set_capacity(capacity)
    return OK


def _step_text(pair):
    return f"{pair[0]} {paper_text(pair[1])}"


LIBRARY_ACTIONS = {
    "define": _define,
    "redefine": _redefine,
    "remove": _remove,
    "revert": _undo,
    "names": _names,
    "definition": _definition,
    "profile": _profile,
    "capacity": _capacity,
    "steps": _steps,
    "replaces": _replaces,
    "certificate": _certificate,
}

KEEPER_ACTIONS = {
    "grant": _grant,
    "refusal": _refusal,
    "grantable": _grantable,
    "next": _next_grant,
    "finish": _finish,
    "remaining": _remaining,
    "usage": _usage,
    "need": _need,
    "limit": _limit,
    "resize": _resize,
    "dismiss": _remove,
    "undo": _undo,
}


def read_command(command):
    """The first word of the command, and the values of its other words."""
    if not isinstance(command, str):
        raise InvalidCommand("a command is a string")
    word, space, rest = command.partition(" ")
    if word not in FORMS:
        raise InvalidCommand("there is no such command")
    kinds = FORMS[word]
    # The last word is all that follows.
    texts = rest.split(" ", len(kinds) - 1) if kinds and space == " " else []
    if len(texts) != len(kinds) or (space == " " and not kinds):
        raise InvalidCommand("the command has too few words, or too many")
    return word, [_read_word(kind, text) for kind, text in zip(kinds, texts)]


def _read_word(kind, text):
    if kind == "definition":
        return parse_definition(text)
    value = text if kind == "name" else _read_paper(text)
    if not _fits_kind(kind, value):
        raise InvalidCommand(f"this is not a {kind}")
    return value


def _read_paper(text):
    try:
        return parse_paper(text)
    except ParseError:
        raise InvalidCommand("this is not the text of a paper") from None


def _fits_kind(kind, value):
    if kind == "name":
        return is_name(value)
    if kind == "capacity":
        return is_integer(value)
    return kind == "choice" or is_within(value, 0, MAX_GRANTS)


def act_on_library(word, library, values):
    """Does what a command of the library asks for, and returns its result."""
    action = LIBRARY_ACTIONS[word]
    return action(library, *values)


def act_on_keeper(word, keeper, values):
    """Does what a command of the keeper asks for, and returns its result."""
    action = KEEPER_ACTIONS[word]
    return action(keeper, *values)
