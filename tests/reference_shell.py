"""A shell by the rows of the table of 16.1, with a library and a keeper of its own.

It uses the library, the keeper and the functions of the program that the table names.
"""

import re

from roomprofile import errors
from roomprofile.decisions.certificates import certificate
from roomprofile.keeper.keeper import Keeper
from roomprofile.library.library import Library
from roomprofile.text.formats import parse_definition, parse_paper
from tests.reference_contexts import is_at_most_by_words
from tests.reference_formats import job_text_by_words, paper_text_by_words, profile_text_by_words

NAME = '[a-z]{1,8}'
INTEGER = '(?:0|-?[1-9][0-9]{0,60})'
LIBRARY_FORMS = {
    'define': 'ND', 'redefine': 'ND', 'remove': 'N', 'revert': '', 'names': '', 'definition': 'N', 'profile': 'N', 'capacity': 'N',
    'steps': 'N', 'replaces': 'NN', 'certificate': 'NI', 'keeper': 'I',
}
KEEPER_FORMS = {
    'admit': 'N', 'grant': 'NP', 'refusal': 'NP', 'grantable': '', 'next': '', 'finish': 'I', 'remaining': 'N', 'usage': '', 'need': '',
    'limit': '', 'resize': 'I', 'dismiss': 'N', 'undo': '',
}
FORMS = {**LIBRARY_FORMS, **KEEPER_FORMS}
PATTERNS = {'N': f'({NAME})', 'I': f'({INTEGER})', 'D': '(.*)', 'P': '(.*)'}


class PlainShell:
    def __init__(self):
        self.library = Library()
        self.keeper = None

    def run(self, command):
        word, values = self.read(command)
        return getattr(self, 'do_' + word)(*values)

    def read(self, command):
        """The word and the values of the others, by one pattern for each command."""
        if not isinstance(command, str):
            raise errors.InvalidCommand('')
        word = command.split(' ')[0]
        if word not in FORMS or (word in KEEPER_FORMS and self.keeper is None):
            raise errors.InvalidCommand('')
        pattern = ' '.join([word] + [PATTERNS[kind] for kind in FORMS[word]])
        match = re.fullmatch(pattern, command, re.ASCII | re.DOTALL)
        if match is None:
            raise errors.InvalidCommand('')
        values = []
        for kind, text in zip(FORMS[word], match.groups()):
            if kind == 'P':
                try:
                    text = parse_paper(text)
                except errors.ParseError:
                    raise errors.InvalidCommand('') from None
            values.append({'D': parse_definition, 'I': int}.get(kind, lambda same: same)(text))
        if word == 'finish' and not 0 <= values[0] <= 400:
            raise errors.InvalidCommand('')
        return word, values

    def do_define(self, name, definition):
        self.library.define(name, definition)
        return 'ok'

    def do_redefine(self, name, definition):
        self.library.redefine(name, definition)
        return 'ok'

    def do_remove(self, name):
        self.library.remove(name)
        return 'ok'

    def do_revert(self):
        self.library.undo()
        return 'ok'

    def do_names(self):
        return ','.join(self.library.names()) if self.library.names() else '-'

    def do_definition(self, name):
        return job_text_by_words(self.library.definition(name))

    def do_profile(self, name):
        return profile_text_by_words(self.library.profile(name))

    def do_capacity(self, name):
        return str(self.library.least_capacity(name))

    def do_steps(self, name):
        return str(self.library.step_count(name))

    def do_replaces(self, first, second):
        profiles = [self.library.profile(first), self.library.profile(second)]
        return 'yes' if is_at_most_by_words(*profiles) else 'no'

    def do_certificate(self, name, capacity):
        return paper_text_by_words(certificate(self.library.expand(name), capacity))

    def do_keeper(self, capacity):
        self.keeper = Keeper(capacity)
        return 'ok'

    def do_admit(self, name):
        job = self.library.expand(name)
        self.keeper.admit(name, job)
        return 'ok'

    def do_grant(self, name, choice):
        return str(self.keeper.grant(name, choice))

    def do_refusal(self, name, choice):
        return paper_text_by_words(self.keeper.refusal(name, choice))

    def do_grantable(self):
        texts = [name + ' ' + paper_text_by_words(choice) for name, choice in self.keeper.grantable()]
        return ', '.join(texts) if texts else '-'

    def do_next(self):
        found = self.keeper.next_grant()
        return 'none' if found is None else found[0] + ' ' + paper_text_by_words(found[1])

    def do_finish(self, count):
        many = 0
        while many < count and (found := self.keeper.next_grant()) is not None:
            self.keeper.grant(*found)
            many += 1
        return str(many)

    def do_remaining(self, name):
        return job_text_by_words(self.keeper.remaining(name))

    def do_usage(self):
        return str(self.keeper.usage())

    def do_need(self):
        return str(self.keeper.need())

    def do_limit(self):
        return str(self.keeper.capacity())

    def do_resize(self, capacity):
        self.keeper.set_capacity(capacity)
        return 'ok'

    def do_dismiss(self, name):
        self.keeper.remove(name)
        return 'ok'

    def do_undo(self):
        self.keeper.undo()
        return 'ok'
