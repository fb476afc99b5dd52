"""Texts by the words of 15.1 to 15.4, and drawn papers.

Nothing here uses the program.
"""


def job_text_by_words(job):
    """Of jobs and of definitions."""
    if isinstance(job, int):
        return str(job)
    if job[0] == 'use':
        return 'use(' + job[1] + ')'
    if job[0] in ('seq', 'par'):
        return job[0] + '(' + ', '.join(map(job_text_by_words, job[1])) + ')'
    return job[0] + '(' + str(job[1]) + ', ' + job_text_by_words(job[2]) + ')'


def profile_text_by_words(profile):
    net, peak, start, end = profile
    texts = [' '.join(f'{capacity}:{usage}' for capacity, usage in pairs) for pairs in (start, end)]
    return f'net {net}, peak {peak}, start {texts[0]}, end {texts[1]}'


def is_paper_by_words(value, levels=60):
    if levels == 0:
        return False
    if value.__class__ is tuple:
        return all(is_paper_by_words(part, levels - 1) for part in value)
    if value.__class__ is str:
        return 1 <= len(value) <= 8 and all(letter in 'abcdefghijklmnopqrstuvwxyz' for letter in value) and value != 'none'
    return value is None or (value.__class__ is int and abs(value) < 10 ** 61)


def paper_text_by_words(paper):
    if isinstance(paper, tuple):
        return '(' + ' '.join(map(paper_text_by_words, paper)) + ')'
    return 'none' if paper is None else str(paper)


def random_paper(source, levels=4):
    if levels == 0 or source.random() < 0.5:
        return source.choice([None, 'a', 'seq', 'nonee', 'abcdefgh', 0, 7, -1, source.randint(-10 ** 61 + 1, 10 ** 61 - 1)])
    return tuple(random_paper(source, levels - 1) for _ in range(source.randint(0, 4)))


def text_changes(text, source=None, most=None):
    """Texts with one sign changed, put in, left out or doubled, or two signs in a different order."""
    places = range(len(text) + 1)
    if most is not None and len(text) > most:
        places = sorted(source.sample(places, most))
    for at in places:
        for sign in ' ,()-+09a:_.\tN\u0663\u00b2':
            yield text[:at] + sign + text[at:]
            yield text[:at] + sign + text[at + 1:]
        yield text[:at] + text[at + 1:]
        yield text[:at] + text[at:at + 1] + text[at:]
        yield text[:at] + text[at + 1:at + 2] + text[at:at + 1] + text[at + 2:]
        yield text[:at]
        yield text[at:]
