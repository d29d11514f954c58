"""Grammars: rules with weights, on a scale, with a kind to start from."""

from kbestwood.errors import NoKind, NoRule, NoTitle, NoWeight, Ring, Twice
from kbestwood.fractions import FIGURES
from kbestwood.scales import scale_of

SMALL_LETTERS = "abcdefghijklmnopqrstuvwxyz"
GREAT_LETTERS = "ABCDEFGHIJKLMNOPQRSTUVWXYZ"
LONGEST_NAME = 12
MOST_PARTS = 4


def is_name_sign(sign):
    """Whether a sign is a letter or a figure; those of other scripts are none."""
    return sign in SMALL_LETTERS or sign in GREAT_LETTERS or sign in FIGURES


def is_name(text):
    """Whether a thing is a name: a text of 1 to 12 letters and figures."""
    if not isinstance(text, str) or not 1 <= len(text) <= LONGEST_NAME:
        return False
    return all([is_name_sign(sign) for sign in text])


def is_kind(text):
    """Whether a thing is a name that begins with a great letter."""
    return is_name(text) and text[0] in GREAT_LETTERS


def is_word(text):
    """Whether a thing is a name that begins with a small letter or a figure."""
    return is_name(text) and text[0] not in GREAT_LETTERS


def are_parts(parts):
    """Whether a thing is a list or a tuple of 1 to 4 kinds and words."""
    if not isinstance(parts, (list, tuple)) or not 1 <= len(parts) <= MOST_PARTS:
        return False
    return all([is_name(part) for part in parts])


def are_titles(titles):
    """Whether a thing is a list or a tuple of one word or more."""
    if not isinstance(titles, (list, tuple)) or len(titles) == 0:
        return False
    return all([is_word(title) for title in titles])


class Rule:
    """What a tree's head may be made of, and what that weighs."""

    def __init__(self, title, head, parts, weight, tag="", under=None):
        if not is_word(title) or not is_kind(head) or not are_parts(parts):
            raise NoRule("a rule has a word as its title, a kind as its head and 1 to 4 parts")
        if tag != "" and not is_word(tag):
            raise NoRule("a rule's tag is a word or the empty text")
        if under is not None and not are_titles(under):
            raise NoRule("under a rule stands None, or one title or more")
        self.title = title
        self.head = head
        self.parts = tuple(parts)
        self.weight = weight
        self.tag = tag
        self.under = None if under is None else tuple(under)


class Grammar:
    """Rules on a scale, counted from nought, and the kind to start from."""

    def __init__(self, scale, start, rules):
        check_weights_and_titles(scale_of(scale), rules)
        check_titles_under(rules)
        check_kinds(start, rules)
        check_rings(rules)
        self.scale = scale
        self.start = start
        self.rules = tuple(rules)


def check_weights_and_titles(scale, rules):
    """Refuses, rule by rule, a weight that is none of the scale, and then a title that an earlier rule has."""
    titles = []
    for rule in rules:
        if not scale.takes(rule.weight):
            raise NoWeight(f"the weight of the rule {rule.title} is none of the scale")
        if rule.title in titles:
            raise Twice(f"two rules have the title {rule.title}")
        titles.append(rule.title)


def check_titles_under(rules):
    """Refuses a title under a rule that no rule has."""
    titles = [rule.title for rule in rules]
    for rule in rules:
        if rule.under is not None and not all([title in titles for title in rule.under]):
            raise NoTitle(f"under the rule {rule.title} stands a title that no rule has")


def check_kinds(start, rules):
    """Refuses a start, or a kind among a rule's parts, that is the head of no rule."""
    heads = [rule.head for rule in rules]
    if start not in heads:
        raise NoKind("the start is the head of no rule")
    for rule in rules:
        if not all([part in heads for part in rule.parts if is_kind(part)]):
            raise NoKind(f"a kind among the parts of the rule {rule.title} is the head of no rule")


def check_rings(rules):
    """Refuses a ring of rules of one part."""
    heads = [rule.head for rule in rules]
    if len(heads_in_order(rules)) < len(set(heads)):
        raise Ring("there is a ring of rules of one part")


def heads_in_order(rules):
    """The heads of rules, each behind the kinds that its rules of one part are made of.

    Heads in a ring, and those from which one is come to, are left out.
    """
    steps = [(rule.head, rule.parts[0]) for rule in rules if len(rule.parts) == 1]
    waiting = list(dict([(rule.head, True) for rule in rules]))
    order = []
    ready = waiting
    while ready:
        held = [head for head, part in steps if part in waiting]
        ready = [head for head in waiting if head not in held]
        waiting = [head for head in waiting if head in held]
        order.extend(ready)
    return order


def may_stand(grammar, number, above):
    """Whether a rule may stand right beneath the rule above, or, where that is -1, at the top."""
    under = grammar.rules[number].under
    if under is None:
        return True
    return above != -1 and grammar.rules[above].title in under
