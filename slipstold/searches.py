"""Searches through nodes that lead to one another.

leads(node) is always a list of tuples that begin with a word and the next node.
"""


def explored(first, leads):
    """A dict from all nodes to which leads lead from the first one, itself included, to their leads."""
    found = {}
    queue = [first]
    while queue:
        node = queue.pop()
        if node not in found:
            found[node] = leads(node)
            queue.extend([lead[1] for lead in found[node]])
    return found


def shortest_way(first, leads, wanted):
    """The words on a shortest way from the first node to a wanted one, or None.

    wanted(node) tells whether the search ends there. Of several shortest ways it is the first one in the order of
    the leads.
    """
    before = {first: None}
    queue = [first]
    at = 0
    while at < len(queue):
        node = queue[at]
        if wanted(node):
            return words_to(before, node)
        for lead in leads(node):
            if lead[1] not in before:
                before[lead[1]] = (node, lead[0])
                queue.append(lead[1])
        at = at + 1
    return None


def words_to(before, node):
    """The words on the way to the node; before has the last node and word on the way to each one."""
    words = []
    while before[node] is not None:
        node, word = before[node]
        words.append(word)
    return words[::-1]
