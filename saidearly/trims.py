"""Rulebooks that say the same with less."""

from saidearly.errors import NoRule
from saidearly.letters import is_within
from saidearly.rulebooks import Rulebook, is_rule
from saidearly.versus import same_scripts


def without_rule(book, rule):
    """Return the rulebook without the rule of this index."""
    rules = book.rules()
    if not is_within(rule, 0, len(rules) - 1):
        raise NoRule(rule)
    return Rulebook(book.window(), book.marks(), rules[:rule] + rules[rule + 1:])


def needless(book):
    """Return the indexes of the rules without each of which alone the scripts are the same."""
    return [rule for rule in range(len(book.rules())) if same_scripts(book, without_rule(book, rule)) is None]


def least_window(book):
    """Return the least window with which the rules say the same."""
    for window in range(1, book.window()):
        if all([is_rule(rule, window, book.marks()) for rule in book.rules()]):
            if same_scripts(book, Rulebook(window, book.marks(), book.rules())) is None:
                return window
    return book.window()
