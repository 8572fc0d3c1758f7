"""Rings in what leads to what; the ways are a dict of nodes, each with the nodes to which it leads."""


def nodes_leading_on(ways):
    """The nodes from which a way has no end."""
    many = {node: len(ways[node]) for node in ways}
    behind = {node: [] for node in ways}
    for node in ways:
        for further in ways[node]:
            behind[further].append(node)
    ended = [node for node in many if many[node] == 0]
    while ended:
        gone = ended.pop()
        for node in behind[gone]:
            many[node] -= 1
            if many[node] == 0:
                ended.append(node)
    return {node: True for node in ways if many[node] > 0}


def ring_in(ways):
    """Any ring of nodes, () if there is none."""
    endless = nodes_leading_on(ways)
    way = list(endless)[:1]
    while way:
        further = [node for node in ways[way[-1]] if node in endless][0]
        if further in way:
            return tuple(way[way.index(further):])
        way.append(further)
    return ()


def nodes_behind(ways, node):
    """All nodes to which a node leads, directly or over others."""
    seen = {}
    ahead = [node]
    while ahead:
        last = ahead.pop()
        for further in ways[last]:
            if further not in seen:
                seen[further] = True
                ahead.append(further)
    return seen


def nodes_on_rings(ways):
    """The nodes that lead to themselves."""
    return [node for node in nodes_leading_on(ways) if node in nodes_behind(ways, node)]


def ring_through(ways, node):
    """A ring that begins with this node and has no node twice, () if there is none."""
    before = {}
    ahead = [node]
    while ahead and node not in before:
        found = []
        for last in ahead:
            for further in ways[last]:
                if further not in before:
                    before[further] = last
                    found.append(further)
        ahead = found
    if node not in before:
        return ()
    way = [node]
    while before[way[0]] != node:
        way.insert(0, before[way[0]])
    # The way ends with the node itself, and the ring begins with it.
    return (node, *way[:-1])
