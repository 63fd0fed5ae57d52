"""The seeker: a plan of a net, a number that no plan is shorter than, and a paper that shows it."""

from stovework.branches import best_branch
from stovework.finds import Find
from stovework.heaps import Heap
from stovework.looks import first_look
from stovework.measures import Measures
from stovework.probes import send_probe

# How many looks at cases may be had to choose a row of the paper.
MOST_LOOKS = 60
# A probe is sent ahead of every so many inner rows of the paper: the paper grows where bounds are low, plans lie deep.
PROBE_EVERY = 10


# A case of the paper: its row, the look at it and, where the row parts it, the nodes of the cases that come of it.
class Node:
    def __init__(self, look, depth):
        self.look = look
        self.depth = depth
        self.row = look.row
        self.below = []


def seek(net, parts=200):
    find = Find(Measures(net))
    root = Node(first_look(find.measures), 0)
    find.take_plan(root.look)
    grow(find, root, parts)
    nodes = nodes_in_order(root)
    return (find.plan, low_of(nodes), [node.row for node in nodes])


# The case with the least bound is parted next, of several the deepest: as long as it is there, low does not rise.
def grow(find, root, parts):
    nodes = [root]
    waiting = Heap([(0, 0, 0)])
    used = 0
    while waiting.many() > 0:
        node = nodes[waiting.take_least()[2]]
        if used % PROBE_EVERY == 0:
            send_probe(find, node.look)
        if used == parts or not find.could_gain(node.look.bound):
            return
        used += 1
        part_node(find, node)
        for each in node.below:
            if each.look.bound is not None:
                waiting.add((each.look.bound, -each.depth, len(nodes)))
                nodes.append(each)


def part_node(find, node):
    branch = best_branch(find.measures, node.look, MOST_LOOKS)
    node.row = branch[0]
    for look in branch[1]:
        find.take_plan(look)
        node.below.append(Node(look, node.depth + 1))


# In the order in which a reader takes the cases from the pile.
def nodes_in_order(root):
    pile = [root]
    nodes = []
    while pile != []:
        node = pile.pop()
        nodes.append(node)
        pile.extend(list(reversed(node.below)))
    return nodes


# The least bound of the cases that are shut, None where rings alone shut them.
def low_of(nodes):
    bounds = [node.look.bound for node in nodes if node.below == []]
    return min([bound for bound in bounds if bound is not None], default=None)
