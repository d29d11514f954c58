"""The teller: the trees of a wood in their order, from the best one on, without making all.

A node's next tree is the best one of its border: of the tuples of ranks that lie right behind the node's rows. Only
for these, trees of the kids' nodes are needed, and never more of them than the border's ranks tell.
"""

from kbestwood.listing import stands_ahead
from kbestwood.ranks import border_behind, first_border, node_kids, weighed_tree
from kbestwood.scales import scale_of


class Shelf:
    """The first rows of a node with their weighed trees, and the border behind them."""

    def __init__(self, scale, ways):
        self.scale = scale
        self.rows = []
        self.trees = []
        self.taken = {}
        # Border tuples whose trees are not made yet, since their kids' trees may not be known.
        self.coming = first_border(ways)
        # Border tuples behind their weighed trees, the best one last.
        self.waiting = []
        self.ended = False

    def reaches(self, many):
        """Whether there are so many rows, or no more to come."""
        return self.ended or len(self.rows) >= many

    def keep_waiting(self, tree, row):
        """Puts a border tuple and its weighed tree among those that wait."""
        low, high = 0, len(self.waiting)
        while low < high:
            middle = (low + high) // 2
            if stands_ahead(self.scale, tree, self.waiting[middle][0]):
                low = middle + 1
            else:
                high = middle
        self.waiting.insert(low, (tree, row))

    def take_next(self):
        """Makes the best of the border the next row; where there is none, the rows are at their end."""
        if not self.waiting:
            self.ended = True
            return
        tree, row = self.waiting.pop()
        self.trees.append(tree)
        self.rows.append(row)
        self.taken[row] = True
        self.coming = border_behind(row, self.taken)


class Teller:
    """Tells the trees of a wood in their order, each once."""

    def __init__(self, wood):
        self.wood = wood
        scale = scale_of(wood.grammar.scale)
        self.shelves = [Shelf(scale, ways) for ways in wood.ways]

    def more(self, many):
        """The list of the next so many trees, or of as many as there are."""
        if self.wood.top is None:
            return []
        trees = self.shelves[self.wood.top].trees
        earlier = len(trees)
        self.provide(self.wood.top, earlier + many)
        return [tree for weight, row, tree in trees[earlier:]]

    def told(self):
        """The list of all trees told so far."""
        if self.wood.top is None:
            return []
        return [tree for weight, row, tree in self.shelves[self.wood.top].trees]

    def paper(self):
        """A paper that holds, whose rows for the top are the trees told so far."""
        # From the top down, since what a node's border needs may bring new rows to the nodes beneath it.
        for node in reversed(range(len(self.shelves))):
            if self.shelves[node].rows:
                for kid, many in self.needs(node):
                    self.provide(kid, many)
        return [(shelf.ended, list(shelf.rows)) for shelf in self.shelves]

    def provide(self, node, many):
        """Sees to it that a node has so many rows, or all that there are."""
        waiting = [(node, many)]
        while waiting:
            node, many = waiting[-1]
            if self.shelves[node].reaches(many):
                waiting.pop()
                continue
            missing = self.needs(node)
            waiting.extend(missing)
            if not missing:
                self.make_border(node)
                self.shelves[node].take_next()

    def needs(self, node):
        """The nodes, and how many rows of each, that are missing for the trees of a node's coming border tuples."""
        missing = []
        for number, ranks in self.shelves[node].coming:
            for kid, rank in zip(node_kids(self.wood.ways[node][number]), ranks):
                if not self.shelves[kid].reaches(rank + 1):
                    missing.append((kid, rank + 1))
        return missing

    def make_border(self, node):
        """Makes the trees of a node's coming border tuples; those whose kids are at their end stand for none."""
        shelf = self.shelves[node]
        for number, ranks in shelf.coming:
            way = self.wood.ways[node][number]
            kids = [self.shelves[kid].trees[rank:rank + 1] for kid, rank in zip(node_kids(way), ranks)]
            if [] not in kids:
                shelf.keep_waiting(weighed_tree(self.wood, way, [kid[0] for kid in kids]), (number, ranks))
        shelf.coming = []


def first_trees(wood, many):
    """The list of the first so many trees, or of all."""
    return Teller(wood).more(many)
