"""Papers, which show that between the trees told of a wood there is no other one."""

from kbestwood.listing import stands_ahead
from kbestwood.ranks import border_behind, first_border, node_kids, weighed_tree
from kbestwood.scales import scale_of


def paper_holds(wood, paper):
    """Whether a paper holds for a wood."""
    trees = []
    for node in range(len(wood.nodes)):
        if not rows_fit(wood, paper, node):
            return False
        trees.append(trees_by_rows(wood, paper, node, trees))
        if not are_in_order(wood, trees[node]) or not border_is_behind(wood, paper, node, trees):
            return False
    return True


def paper_trees(wood, paper, node):
    """The trees for which the rows of a node stand, in a paper that holds."""
    trees = []
    for earlier in range(node + 1):
        trees.append(trees_by_rows(wood, paper, earlier, trees))
    return [tree for weight, row, tree in trees[node]]


def rows_fit(wood, paper, node):
    """Whether the rows of a node tell ways of it, with ranks that are there."""
    ended, rows = paper[node]
    return all([0 <= number < len(wood.ways[node]) and ranks_fit(paper, wood.ways[node][number], ranks)
                for number, ranks in rows])


def ranks_fit(paper, way, ranks):
    """Whether there is just one rank for each node kid of a way, and each is that of a row."""
    kids = node_kids(way)
    return len(ranks) == len(kids) and all([0 <= rank < len(paper[kid][1]) for kid, rank in zip(kids, ranks)])


def trees_by_rows(wood, paper, node, trees):
    """The weighed trees of a node's rows, by those of the nodes ahead."""
    ended, rows = paper[node]
    return [tree_by_row(wood, wood.ways[node][number], ranks, trees) for number, ranks in rows]


def tree_by_row(wood, way, ranks, trees):
    """The weighed tree for which ranks of a way stand, by the weighed trees of the nodes ahead."""
    return weighed_tree(wood, way, [trees[kid][rank] for kid, rank in zip(node_kids(way), ranks)])


def are_in_order(wood, trees):
    """Whether each weighed tree stands ahead of the next one."""
    scale = scale_of(wood.grammar.scale)
    return all([stands_ahead(scale, one, other) for one, other in zip(trees, trees[1:])])


def border_is_behind(wood, paper, node, trees):
    """Whether no border tuple of a node can stand for a tree ahead of the node's last row."""
    ended, rows = paper[node]
    if not rows and not ended:
        return True
    return all([is_behind(wood, paper, node, row, trees) for row in border_of(wood.ways[node], rows)])


def border_of(ways, rows):
    """The border tuples of all ways of a node, by the node's rows, each as a row."""
    taken = dict([(row, True) for row in rows])
    border = [row for row in first_border(ways) if row not in taken]
    for row in rows:
        border.extend(border_behind(row, taken))
    return border


def is_behind(wood, paper, node, row, trees):
    """Whether a border tuple stands for no tree at all, or for one behind the last row's of its node."""
    number, ranks = row
    way = wood.ways[node][number]
    if is_beyond_end(paper, way, ranks):
        return True
    ended, rows = paper[node]
    if ended or not ranks_fit(paper, way, ranks):
        return False
    return stands_ahead(scale_of(wood.grammar.scale), trees[node][-1], tree_by_row(wood, way, ranks, trees))


def is_beyond_end(paper, way, ranks):
    """Whether one of the ranks is the first beyond the rows of its kid's node, and these are all."""
    ends = [(len(paper[kid][1]), paper[kid][0]) for kid in node_kids(way)]
    return any([ended and rank == many for rank, (many, ended) in zip(ranks, ends)])
