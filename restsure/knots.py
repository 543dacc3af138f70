"""Lots of nodes of a graph that all lead to each other."""


def knots(leads):
    """The lots, as great as can be, of nodes that lead to each other, each lot ascending.

    leads has for each node the list of the nodes to which it leads. A node that leads to no
    other one and back is a lot by itself.
    """
    backwards = turned_round(leads)
    taken = [False] * len(leads)
    found = []
    order = leaving_order(leads)
    for start in reversed(order):
        if not taken[start]:
            found.append(sorted(gathered(backwards, start, taken)))
    return found


def leaving_order(leads):
    """The nodes in the order in which a search, depth first, leaves them."""
    # The stack is kept by hand: rings may be longer than calls may be deep.
    seen = [False] * len(leads)
    order = []
    for start in range(len(leads)):
        if seen[start]:
            continue
        seen[start] = True
        stack = [(start, 0)]
        while stack:
            node, at = stack.pop()
            if at == len(leads[node]):
                order.append(node)
                continue
            stack.append((node, at + 1))
            near = leads[node][at]
            if not seen[near]:
                seen[near] = True
                stack.append((near, 0))
    return order


def turned_round(leads):
    """The same graph with each lead the other way round."""
    backwards = [[] for _ in leads]
    for node, row in enumerate(leads):
        for near in row:
            backwards[near].append(node)
    return backwards


def gathered(leads, start, taken):
    """The nodes to which start leads by nodes that are not taken; they are taken then."""
    taken[start] = True
    lot = [start]
    stack = [start]
    while stack:
        node = stack.pop()
        for near in leads[node]:
            if not taken[near]:
                taken[near] = True
                lot.append(near)
                stack.append(near)
    return lot
