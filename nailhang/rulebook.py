"""The rulebook: rules written as texts and read again."""

from nailhang.errors import NoRule
from nailhang.rules import least_or_no_rule


def rule_text(rule):
    return " ".join(rule)


def read_rule(text):
    if not isinstance(text, str):
        raise NoRule("a rule is read of a text")
    words = text.split(" ")
    if "" in words:
        raise NoRule("a rule's words are parted by one blank each, and none is without letters")
    return least_or_no_rule(words)
