"""Charts: which kinds a grammar can read in a net, from which place to which, ahead of any tree.

A seat is a tuple (part, above): a word, or a kind, that a rule has among its parts. Its above is the rule's number
where some rule of the kind is tied, since then the rule above tells which rules may stand there; else it is -1.
"""

from kbestwood.grammars import heads_in_order, is_kind, may_stand


class Chart:
    """What may stand on each seat of a grammar, from which place of a net to which."""

    def __init__(self, grammar, net):
        self.tied_kinds = [rule.head for rule in grammar.rules if rule.under is not None]
        self.seats = [self.seats_beneath(rule, number) for number, rule in enumerate(grammar.rules)]
        self.top_seat = (grammar.start, -1)
        self.fillers = self.fillers_of(grammar)
        self.edge_numbers = edges_by_ends(net)
        self.ends = {}
        self.read_words(net)
        self.read_kinds(grammar, spans_of(net))

    def seats_beneath(self, rule, number):
        """The seats of a rule's parts, in order."""
        return [(part, number if part in self.tied_kinds else -1) for part in rule.parts]

    def fillers_of(self, grammar):
        """For each seat of a kind the numbers of the rules that may stand there."""
        fillers = {}
        for seat in [self.top_seat] + [seat for seats in self.seats for seat in seats]:
            kind, above = seat
            if is_kind(kind):
                fillers[seat] = [number for number in numbers_of(kind, grammar.rules)
                                 if may_stand(grammar, number, above)]
        return fillers

    def read_words(self, net):
        """Notes where the words of a net end, by where they begin."""
        for begin, end, word, weight in net.edges:
            self.note((word, -1), begin, end)

    def read_kinds(self, grammar, spans):
        """Notes where kinds may end, by where they begin, for spans of which the shorter ones come first."""
        # What a kind is made of is shorter, or, for a rule of one part, of a head that stands ahead of it.
        heads = heads_in_order(grammar.rules)
        numbers = [numbers_of(head, grammar.rules) for head in heads]
        for length, begin in spans:
            for head, own in zip(heads, numbers):
                self.read_kind(head, own, begin, begin + length)

    def read_kind(self, kind, numbers, begin, end):
        """Notes for which seats of a kind, with the numbers of its rules, there is a tree between two places."""
        fitting = [number for number in numbers if self.fits(number, begin, end)]
        for seat, fillers in self.fillers.items():
            if seat[0] == kind and any([number in fitting for number in fillers]):
                self.note(seat, begin, end)

    def note(self, seat, begin, end):
        """Notes that something may stand on a seat from one place to another."""
        ends = self.ends.setdefault((seat, begin), [])
        if end not in ends:
            ends.append(end)

    def ends_from(self, seat, begin):
        """Where that may end which stands on a seat and begins at a place."""
        return self.ends.get((seat, begin), [])

    def fits(self, number, begin, end):
        """Whether a rule has kids from one place to another."""
        return end in self.borders(number, begin, end)[-1]

    def borders(self, number, begin, end):
        """For each part of a rule the places where it may begin, and then those where the last may end."""
        borders = [[begin]]
        for seat in self.seats[number]:
            reached = [place for border in borders[-1] for place in self.ends_from(seat, border)]
            borders.append(sorted({place for place in reached if place <= end}))
        return borders

    def ways_of(self, node):
        """The ways of a node, with each node kid by itself instead of its number."""
        kind, above, begin, end = node
        return [(number, kids) for number in self.fillers[(kind, above)]
                for kids in self.kids_of(number, begin, end)]

    def kids_of(self, number, begin, end):
        """Each tuple of kids that a rule has from one place to another."""
        borders = self.borders(number, begin, end)
        # From right to left, since each border was come to from the left: so no row of kids leads nowhere.
        rows = [((), end)]
        for seat, border in reversed(list(zip(self.seats[number], borders))):
            rows = [((kid,) + kids, place) for kids, behind in rows for place in border
                    for kid in self.kids_between(seat, place, behind)]
        return [kids for kids, place in rows]

    def kids_between(self, seat, begin, end):
        """What may stand on a seat from one place to another: edges, or one node."""
        part, above = seat
        if not is_kind(part):
            return [("edge", number) for number in self.edge_numbers.get((begin, end, part), [])]
        if end in self.ends_from(seat, begin):
            return [("node", (part, above, begin, end))]
        return []


def numbers_of(head, rules):
    """The numbers of the rules of a head."""
    return [number for number, rule in enumerate(rules) if rule.head == head]


def edges_by_ends(net):
    """The numbers of a net's edges, by where they begin, where they end and their word."""
    numbers = {}
    for number, (begin, end, word, weight) in enumerate(net.edges):
        numbers.setdefault((begin, end, word), []).append(number)
    return numbers


def spans_of(net):
    """Each (length, begin) from a place where an edge begins to one where an edge ends, the shorter ones first."""
    begins = sorted({edge[0] for edge in net.edges})
    ends = sorted({edge[1] for edge in net.edges})
    return sorted([(end - begin, begin) for begin in begins for end in ends if begin < end])
