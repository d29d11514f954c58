"""Learning: how often rules stand in told trees, and the weights that this teaches."""

from kbestwood.errors import NoTree
from kbestwood.fractions import fraction
from kbestwood.grammars import Grammar, Rule, is_kind
from kbestwood.trees import rule_fault, rules_in, seated_kids


def counts_of(grammar, trees):
    """For each rule how often it stands in a list of trees, all together."""
    check_trees(grammar, trees)
    counts = [0 for rule in grammar.rules]
    for tree in trees:
        for number in rules_in(tree):
            counts[number] += 1
    return counts


def check_trees(grammar, trees):
    """Refuses a list without a tree, and one with something that is no tree of the grammar."""
    if not trees:
        raise NoTree("there is no tree to learn from")
    if not all([is_tree(grammar, tree) for tree in trees]):
        raise NoTree("one of the trees is none of the grammar")


def is_tree(grammar, tree):
    """Whether a thing is a tree of a grammar, whatever the numbers of its edges."""
    waiting = [(grammar.start, -1, tree)]
    while waiting:
        part, above, thing = waiting.pop()
        if is_kind(part):
            if rule_fault(grammar, part, above, thing) != "":
                return False
            waiting.extend(seated_kids(grammar, thing))
        elif isinstance(thing, tuple):
            return False
    return True


def learnt(grammar, trees):
    """For each rule how often it stands in the trees, divided by how often any rule with its head does."""
    counts = counts_of(grammar, trees)
    heads = {}
    for rule, count in zip(grammar.rules, counts):
        heads[rule.head] = heads.get(rule.head, 0) + count
    # A head that stands nowhere must not divide: its rules have nought all the same.
    return [fraction(count, max(heads[rule.head], 1)) for rule, count in zip(grammar.rules, counts)]


def taught(grammar, trees):
    """The grammar of the rules that stand in the trees, on the scale chance, with their learnt weights."""
    weights = learnt(grammar, trees)
    kept = [(rule, weight) for rule, weight in zip(grammar.rules, weights) if weight != (0, 1)]
    titles = [rule.title for rule, weight in kept]
    return Grammar("chance", grammar.start, [taught_rule(rule, weight, titles) for rule, weight in kept])


def taught_rule(rule, weight, titles):
    """A rule with another weight, and without the titles under it that are not among those told."""
    under = None
    if rule.under is not None:
        under = [title for title in rule.under if title in titles]
    return Rule(rule.title, rule.head, rule.parts, weight, rule.tag, under)
