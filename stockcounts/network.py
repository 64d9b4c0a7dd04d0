"""A network through which goods flow from node to node as cheaply as possible.

Every arc has an opposite one, whose number is its own with the last bit turned.
What is sent through an arc makes room on the opposite one, which takes goods
back, and their cost with them.

The nodes have prices. No arc that has room left costs less than the price of
its head less the price of its tail; so there is no cheaper flow with the same
excess at the nodes. An arc that costs just this is tight: what is sent around
through tight arcs alone leaves the cost of the flow as it is.
"""

from heapq import heappop, heappush


class Network:
    """Nodes that have goods in excess, or lack them, and arcs between the nodes."""

    def __init__(self, many):
        self.excess = [0] * many
        self.prices = [0] * many
        self._leaving = [[] for _ in range(many)]
        self._heads = []
        self._costs = []
        self._rooms = []

    def link(self, tail, head, cost, room, flow):
        """Add an arc through which so much flows, with room for so much more; return its number."""
        arc = len(self._heads)
        self._add_half(tail, head, cost, room)
        self._add_half(head, tail, -cost, flow)
        return arc

    def _add_half(self, tail, head, cost, room):
        self._leaving[tail].append(len(self._heads))
        self._heads.append(head)
        self._costs.append(cost)
        self._rooms.append(room)

    def flow(self, arc):
        """Return how much flows through an arc."""
        return self._rooms[arc ^ 1]

    def shut(self, arc):
        """Let what flows through an arc stay as it is from now on."""
        self._rooms[arc] = 0
        self._rooms[arc ^ 1] = 0

    def settle(self):
        """Send all that is in excess to where it lacks, as cheaply as possible.

        Return None, or if some excess reaches nothing that lacks goods, the nodes that it reaches.
        """
        for start in range(len(self._leaving)):
            while self.excess[start] > 0:
                end, far, entered = self._nearest_lack(start)
                if end is None:
                    return list(far)
                self._follow(far, far[end])
                most = min(self.excess[start], -self.excess[end])
                sent = self._send(self._way(entered, start, end), most)
                self.excess[start] -= sent
                self.excess[end] += sent
        return None

    def _nearest_lack(self, start):
        """Return the nearest node that lacks goods, how far the nodes are that are not farther, and the ways there.

        The ways are a dict from the nodes to the arcs by which they are entered. An arc is as long as it
        costs more than the prices allow. If nothing that is reached lacks goods, the first part is None.
        """
        far = {}
        reached = {start: 0}
        entered = {}
        queue = [(0, start)]
        while queue:
            length, node = heappop(queue)
            if node in far:
                continue
            far[node] = length
            if self.excess[node] < 0:
                return node, far, entered
            for arc in self._leaving[node]:
                if self._rooms[arc] > 0:
                    head = self._heads[arc]
                    longer = length + self._spare(arc)
                    if head not in reached or longer < reached[head]:
                        reached[head] = longer
                        entered[head] = arc
                        heappush(queue, (longer, head))
        return None, far, entered

    def _spare(self, arc):
        """Return how much more an arc costs than the price of its head less that of its tail."""
        return self._costs[arc] + self.prices[self._heads[arc ^ 1]] - self.prices[self._heads[arc]]

    def _follow(self, far, farthest):
        """Let the prices follow a search, such that the shortest ways become tight."""
        for node in far:
            self.prices[node] += far[node] - farthest

    def _way(self, entered, start, end):
        """Return the arcs of the way from the start to the end, the last one first."""
        arcs = []
        node = end
        while node != start:
            arcs.append(entered[node])
            node = self._heads[entered[node] ^ 1]
        return arcs

    def _send(self, arcs, most):
        """Send as much through all of the arcs as they have room for; return how much."""
        amount = min([most] + [self._rooms[arc] for arc in arcs])
        for arc in arcs:
            self._rooms[arc] -= amount
            self._rooms[arc ^ 1] += amount
        return amount

    def raise_flow(self, arc, most):
        """Raise what flows through an arc, by at most so much, as far as this leaves the cost as it is."""
        if self._spare(arc) != 0:
            return
        room, flow = self._rooms[arc], self._rooms[arc ^ 1]
        # What goes back must not take the arc itself.
        self.shut(arc)
        raised = self._send_tightly(self._heads[arc], self._heads[arc ^ 1], min(room, most))
        self._rooms[arc] = room - raised
        self._rooms[arc ^ 1] = flow + raised

    def _send_tightly(self, start, end, most):
        """Send at most so much from the start to the end through tight arcs; return how much."""
        sent = 0
        while sent < most:
            entered = self._tight_ways(start, end)
            if end not in entered:
                break
            sent += self._send(self._way(entered, start, end), most - sent)
        return sent

    # The nodes are searched layer by layer, because the ways with the fewest
    # arcs are used up after few searches, however much the arcs have room for.
    def _tight_ways(self, start, end):
        """Return a dict from the nodes that tight arcs lead to, as far as the end, to the arcs by which they do."""
        entered = {start: None}
        layer = [start]
        while layer and end not in entered:
            following = []
            for node in layer:
                for arc in self._leaving[node]:
                    if self._rooms[arc] > 0 and self._heads[arc] not in entered and self._spare(arc) == 0:
                        entered[self._heads[arc]] = arc
                        following.append(self._heads[arc])
            layer = following
        return entered
