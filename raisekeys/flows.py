"""Flows: as much as can go over links from windows to windows, with limited room at both ends."""

BEGIN = 0
END = 1


class Flow:
    """A largest flow.

    `links` is a dict of each window to the windows at the other ends of its links, `limits` a dict of each window
    to the most that can begin with it, and the most that can end with it. A node is a tuple of BEGIN or END and a
    window.
    """

    def __init__(self, links, limits):
        self.links = links
        self.room = {(side, name): limits[name] for side in (BEGIN, END) for name in limits}
        self.carried = {end: {} for end in limits}
        for begin in links:
            self.fill(begin)

    def fill(self, begin):
        """Send as much as possible from a window. Nothing that is sent later makes way for more from it."""
        while self.room[(BEGIN, begin)] > 0:
            before, last = self.search([(BEGIN, begin)])
            if last is None:
                break
            self.send(way_to(before, last))

    def search(self, starts):
        """Return the nodes that more flow reaches, each with the node before it, and an end with room or None."""
        before = {node: None for node in starts}
        reached = list(starts)
        while reached:
            found = []
            for node in reached:
                for after in self.nodes_after(node):
                    if after in before:
                        continue
                    before[after] = node
                    if after[0] == END and self.room[after] > 0:
                        return (before, after)
                    found.append(after)
            reached = found
        return (before, None)

    def nodes_after(self, node):
        """Return where more flow can go on: over a link, or back over a link that carries some already."""
        side, name = node
        if side == BEGIN:
            return [(END, end) for end in self.links[name]]
        return [(BEGIN, begin) for begin in self.carried[name] if self.carried[name][begin] > 0]

    def send(self, way):
        """Send as much as possible along a way of nodes: there and back in turns."""
        there = list(zip(way[::2], way[1::2]))
        back = list(zip(way[1::2], way[2::2]))
        carried = [self.carried[end[1]][begin[1]] for end, begin in back]
        amount = min([self.room[way[0]], self.room[way[-1]], *carried])
        for begin, end in there:
            self.carry(begin[1], end[1], amount)
        for end, begin in back:
            self.carry(begin[1], end[1], -amount)
        self.room[way[0]] -= amount
        self.room[way[-1]] -= amount

    def carry(self, begin, end, amount):
        """Let a link carry this much more."""
        self.carried[end][begin] = self.carried[end].get(begin, 0) + amount

    def amounts(self):
        """Return the list of tuples (begin, end, amount) of the links that carry something."""
        found = []
        for begin in self.links:
            carrying = [end for end in self.links[begin] if self.carried[end].get(begin, 0) > 0]
            found.extend([(begin, end, self.carried[end][begin]) for end in carrying])
        return found

    def full_begins(self):
        """Return the windows at whose beginning the flow is limited, as a part of the narrowest place."""
        before = self.last_search()
        return [name for name in self.links if (BEGIN, name) not in before]

    def full_ends(self):
        """Return the windows at whose end the flow is limited, as the rest of the narrowest place."""
        before = self.last_search()
        return [name for name in self.links if (END, name) in before]

    def last_search(self):
        """Return the nodes that more flow reaches without getting to an end with room."""
        starts = [(BEGIN, name) for name in self.links if self.room[(BEGIN, name)] > 0]
        return self.search(starts)[0]


def way_to(before, last):
    """Return the nodes on the way to the last one, in the order in which they are reached."""
    found = []
    node = last
    while node is not None:
        found.append(node)
        node = before[node]
    return found[::-1]
