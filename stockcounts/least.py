"""The least stories of records, as the cheapest flows of goods through a network.

A node stands for outside, one for each stretch of a place, and one for each
count. At a move goods stay at its places, and the amount of the move flows from
the source before it to the target behind it. At a count goods flow to the node
of the count, or outside if they are missing; found goods flow there from
outside; the amount of the count flows on to the stretch behind it.
"""

from stockcounts.errors import Contradiction
from stockcounts.network import Network
from stockcounts.records import OUTSIDE, id_of, in_sequence, places_in, stretches_before, stretches_of
from stockcounts.records import tells_move, weight_of, written

OUTSIDE_NODE = 0


def _numbered(stretches):
    """Return a dict from the places to the lists of the nodes of their stretches."""
    nodes = {}
    following = OUTSIDE_NODE + 1
    for place in stretches:
        nodes[place] = list(range(following, following + stretches[place]))
        following += stretches[place]
    return nodes


class LeastStories:
    """The least stories of records. One of them is held at any time, and it may be exchanged for others.

    Raises Contradiction(prices) if the records have no story.
    """

    def __init__(self, records, shortage, surplus):
        self._records = in_sequence(records)
        self._before = stretches_before(records)
        self._nodes = _numbered(stretches_of(records))
        # No arc of a cheapest flow takes more than all that was written down together.
        self._endless = 1 + sum([written(record) for record in records])
        self._kept = {}
        self._amount_arcs = {}
        self._gap_arcs = {}
        self._network = self._joined_nodes(shortage, surplus)
        reached = self._network.settle()
        if reached is not None:
            raise Contradiction(self._prices_of_cut(reached))

    def _joined_nodes(self, shortage, surplus):
        stretches = sum([len(self._nodes[place]) for place in self._nodes])
        counts = [record for record in self._records if not tells_move(record)]
        network = Network(OUTSIDE_NODE + 1 + stretches + len(counts))
        for at, record in enumerate(counts):
            self._link_count(network, record, OUTSIDE_NODE + 1 + stretches + at, shortage, surplus)
        for record in self._records:
            if tells_move(record):
                self._link_move(network, record)
        for place in self._nodes:
            network.link(self._nodes[place][-1], OUTSIDE_NODE, 0, self._endless, 0)
        return network

    def _link_move(self, network, record):
        for place in places_in(record):
            network.link(self._node(record, place, 0), self._node(record, place, 1), 0, self._endless, 0)
        self._link_amount(network, record, self._node(record, record[2], 0), self._node(record, record[3], 1))

    def _link_count(self, network, record, node, shortage, surplus):
        before = self._node(record, record[2], 0)
        missing = network.link(before, OUTSIDE_NODE, shortage, self._endless, 0)
        found = network.link(OUTSIDE_NODE, node, surplus, self._endless, 0)
        network.link(before, node, 0, self._endless, 0)
        self._gap_arcs[id_of(record)] = (found, missing)
        self._link_amount(network, record, node, self._node(record, record[2], 1))

    def _node(self, record, place, behind):
        """Return the node of a place before a record, or with 1 in place of 0 the one behind it."""
        if place == OUTSIDE:
            return OUTSIDE_NODE
        return self._nodes[place][self._before[id_of(record)][place] + behind]

    def _link_amount(self, network, record, tail, head):
        """Let the amount that was written down flow; if the record is not sure, let it be more or less at a cost."""
        ident, amount, weight = id_of(record), written(record), weight_of(record)
        network.excess[tail] -= amount
        network.excess[head] += amount
        if weight is None:
            self._kept[ident] = amount
            self._amount_arcs[ident] = ()
        else:
            up_to_written = network.link(tail, head, -weight, 0, amount)
            beyond_written = network.link(tail, head, weight, self._endless, 0)
            self._amount_arcs[ident] = (up_to_written, beyond_written)

    def _prices_of_cut(self, reached):
        # Goods get outside from everywhere. So outside is reached, and its price is 0.
        inside = {node: True for node in reached}
        return {place: [0 if node in inside else 1 for node in self._nodes[place]] for place in self._nodes}

    def certifying_prices(self):
        """Return right prices whose bound is the least weight."""
        numbers = self._network.prices
        base = numbers[OUTSIDE_NODE]
        return {place: [numbers[node] - base for node in self._nodes[place]] for place in self._nodes}

    def story(self):
        """Return the story that is held, as a dict from the ids in the sequence of the records."""
        return {id_of(record): self.amount(id_of(record)) for record in self._records}

    def amount(self, ident):
        """Return the amount of a record in the story that is held."""
        if ident in self._kept:
            return self._kept[ident]
        return sum([self._network.flow(arc) for arc in self._amount_arcs[ident]])

    def gap(self, ident):
        """Return the gap of a count in the story that is held."""
        found, missing = self._gap_arcs[ident]
        return self._network.flow(found) - self._network.flow(missing)

    def keep(self, ident):
        """Let a record have its present amount in all stories that are held from now on."""
        self._kept[ident] = self.amount(ident)
        for arc in self._amount_arcs[ident]:
            self._network.shut(arc)
        self._amount_arcs[ident] = ()

    def raise_amount(self, ident, most):
        """Hold a story in which a record has more, by at most so much and as far as there is one."""
        self._raise_flows(self._amount_arcs[ident], most)

    def lower_amount(self, ident, most):
        """Hold a story in which a record has less, by at most so much and as far as there is one."""
        self._raise_flows([arc ^ 1 for arc in self._amount_arcs[ident]], most)

    # Of the arcs of a record, and of those of a gap, at most one is tight,
    # because they differ in cost. So each of them may be raised for itself.
    def _raise_flows(self, arcs, most):
        for arc in arcs:
            self._network.raise_flow(arc, most)

    def lowest_amount(self, ident):
        """Hold a story in which a record has as little as in any; return how much."""
        self.lower_amount(ident, self._endless)
        return self.amount(ident)

    def highest_amount(self, ident):
        """Hold a story in which a record has as much as in any; return how much."""
        self.raise_amount(ident, self._endless)
        return self.amount(ident)

    def lowest_gap(self, ident):
        """Hold a story in which the gap of a count is as low as in any; return the gap."""
        found, missing = self._gap_arcs[ident]
        self._raise_flows((found ^ 1, missing), self._endless)
        return self.gap(ident)

    def highest_gap(self, ident):
        """Hold a story in which the gap of a count is as high as in any; return the gap."""
        found, missing = self._gap_arcs[ident]
        self._raise_flows((found, missing ^ 1), self._endless)
        return self.gap(ident)
