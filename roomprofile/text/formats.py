"""The texts of jobs, definitions, profiles and papers. Each value has one text, and each text one value."""

from roomprofile.errors import InvalidJob, InvalidPaper, InvalidProfile, ParseError
from roomprofile.integers import is_integer, is_short_integer
from roomprofile.jobs.jobs import MAX_DEPTH, checked_sizes, is_job
from roomprofile.library.library import is_definition
from roomprofile.names import is_name
from roomprofile.profiles.forms import has_profile_form
from roomprofile.text.reader import Reader

MAX_LEVELS = 60

JOB_DIGITS = 31
PAPER_DIGITS = 61
PROFILE_DIGITS = 300
PROFILE_END = (10 ** 60) ** 5


def job_text(job):
    """The text of the job."""
    checked_sizes(job)
    return _definition_text(job)


def parse_job(text):
    """The job of the text."""
    job = _parsed_definition(text)
    if not is_job(job):
        raise ParseError("this is not the text of a job")
    return job


def definition_text(definition):
    """The text of the definition."""
    if not is_definition(definition):
        raise InvalidJob("this is not a definition")
    return _definition_text(definition)


def parse_definition(text):
    """The definition of the text."""
    definition = _parsed_definition(text)
    if not is_definition(definition):
        raise ParseError("this is not the text of a definition")
    return definition


def profile_text(profile):
    """The text of the profile."""
    if not has_profile_form(profile) or not _are_within_digits(profile):
        raise InvalidProfile("this is not a profile, or its integers are too long")
    net, peak, start, end = profile
    return f"net {net}, peak {peak}, start {_valleys_text(start)}, end {_valleys_text(end)}"


def parse_profile(text):
    """The profile of the text."""
    reader = Reader(text)
    reader.take("net ")
    net = reader.take_integer(PROFILE_DIGITS)
    reader.take(", peak ")
    peak = reader.take_integer(PROFILE_DIGITS)
    reader.take(", start ")
    start = _read_valleys(reader)
    reader.take(", end ")
    end = _read_valleys(reader)
    reader.take_end()
    if not has_profile_form((net, peak, start, end)):
        raise ParseError("this is not the text of a profile")
    return (net, peak, start, end)


def paper_text(paper):
    """The text of the paper."""
    if not _is_paper(paper, MAX_LEVELS):
        raise InvalidPaper("this is not a paper")
    return _paper_text(paper)


def parse_paper(text):
    """The paper of the text."""
    reader = Reader(text)
    paper = _read_paper(reader, MAX_LEVELS)
    reader.take_end()
    return paper


def _definition_text(definition):
    if is_integer(definition):
        return str(definition)
    if definition[0] == "use":
        return f"use({definition[1]})"
    if definition[0] in ("seq", "par"):
        inner = ", ".join([_definition_text(part) for part in definition[1]])
        return f"{definition[0]}({inner})"
    return f"{definition[0]}({definition[1]}, {_definition_text(definition[2])})"


def _parsed_definition(text):
    """What is built like a definition, from its text; it may exceed the limits of a definition."""
    reader = Reader(text)
    definition = _read_definition(reader, MAX_DEPTH)
    reader.take_end()
    return definition


def _read_definition(reader, levels):
    if levels == 0:
        raise ParseError("this is nested too deep")
    word = reader.take_letters()
    if word == "":
        return reader.take_integer(JOB_DIGITS)
    reader.take("(")
    if word in ("seq", "par"):
        return (word, _read_parts(reader, levels - 1))
    if word in ("repeat", "copies"):
        n = reader.take_integer(JOB_DIGITS)
        reader.take(", ")
        inner = _read_definition(reader, levels - 1)
        reader.take(")")
        return (word, n, inner)
    name = reader.take_letters()
    reader.take(")")
    return (word, name)


def _read_parts(reader, levels):
    parts = []
    while not reader.has_taken(")"):
        if parts:
            reader.take(", ")
        parts.append(_read_definition(reader, levels))
    return tuple(parts)


def _are_within_digits(profile):
    net, peak, start, end = profile
    numbers = [net, peak]
    for pair in start + end:
        numbers.extend(pair)
    return all([-PROFILE_END < number < PROFILE_END for number in numbers])


def _valleys_text(valleys):
    return " ".join([f"{capacity}:{usage}" for capacity, usage in valleys])


def _read_valleys(reader):
    pairs = []
    while not pairs or reader.has_taken(" "):
        capacity = reader.take_integer(PROFILE_DIGITS)
        reader.take(":")
        pairs.append((capacity, reader.take_integer(PROFILE_DIGITS)))
    return tuple(pairs)


def _is_paper(value, levels):
    if levels == 0:
        return False
    if not isinstance(value, tuple):
        return value is None or is_short_integer(value) or _is_word(value)
    # The first wrong part decides, so that a value which is nested too deep is refused soon.
    for part in value:
        if not _is_paper(part, levels - 1):
            return False
    return True


def _is_word(value):
    # The words of papers are written like names.
    return is_name(value) and value != "none"


def _paper_text(paper):
    if paper is None:
        return "none"
    if isinstance(paper, tuple):
        inner = " ".join([_paper_text(part) for part in paper])
        return f"({inner})"
    return str(paper)


def _read_paper(reader, levels):
    if levels == 0:
        raise ParseError("this is nested too deep")
    if reader.has_taken("("):
        return _read_papers(reader, levels - 1)
    word = reader.take_letters()
    if word == "":
        return reader.take_integer(PAPER_DIGITS)
    if word == "none":
        return None
    if not is_name(word):
        raise ParseError("a word has at most eight letters")
    return word


def _read_papers(reader, levels):
    papers = []
    while not reader.has_taken(")"):
        if papers:
            reader.take(" ")
        papers.append(_read_paper(reader, levels))
    return tuple(papers)
