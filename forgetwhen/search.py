"""Breadth first through nodes: who comes first has the least of the shortest words."""


def search(begins, ways, behind, found=None, most=None):
    """(nodes, came, at): the nodes as first come to, from the begins on, way by way.

    came tells for each node (number of the node ahead, way), None for a begin.
    It ends at the first node that is found, number at (else at is the number of nodes),
    or as soon as there are more nodes than most.
    """
    nodes = []
    came = []
    seen = {}
    for node in begins:
        if node not in seen:
            seen[node] = True
            nodes.append(node)
            came.append(None)
    at = 0
    while at < len(nodes) and (most is None or len(nodes) <= most):
        if found is not None and found(nodes[at]):
            break
        for way in ways:
            node = behind(nodes[at], way)
            if node not in seen:
                seen[node] = True
                nodes.append(node)
                came.append((at, way))
        at += 1
    return nodes, came, at


def word_to(came, number):
    """The ways that lead from its begin to a node."""
    ways = []
    while came[number] is not None:
        number, way = came[number]
        ways.append(way)
    return tuple(reversed(ways))
