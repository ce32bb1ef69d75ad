"""The cheapest ways of all callers to what they can make happen.

Between the moves of a script, the module is in a scene: all that matters of what was done before. While a callback of
a caller is run, the move has a rest: all that it still will do. The moves that the caller makes meanwhile begin in a
scene again, and come back to the rest with another scene. So a node of the search is a pair of a rest and a scene; at
the rest 0 no move is under way. What moves lead from a scene to another one does not depend on the rest, so they are
looked for only once, from each scene in which some callback is run. Such a scene is called an origin.

For each node the search has the origins from which it can be reached, and by how many moves at least. A set of
origins is an integer with one bit for each. The lowest bit stands for the beginning of the whole script: a caller
who reaches a node in any way, be it by never ending the moves around it.

The search takes what it finds in the order of the number of moves. If an origin is found late, it goes back to small
numbers; this changes nothing that was found, since all that follows from the origin comes behind it.
"""

WHOLE = 1
NO_REST = 0


class Numbers:
    """Values and their numbers, from 0 on, in the order in which they came."""

    def __init__(self):
        self.known = {}
        self.rows = []

    def of_value(self, value):
        """The number of the value, which is a new one if it is not known."""
        if value not in self.known:
            self.known[value] = len(self.rows)
            self.rows.append(value)
        return self.known[value]


class Search:
    """A search over all callers of what the rules describe.

    The rules have these methods. Moves, goals, rests and scenes are theirs.
    - first(): the scene at the beginning.
    - starts(scene): rows of a move, the goals that it meets at once, and the rest and the scene after that.
    - resumes(rest, scene): the same rows, with an ending of the callback in place of a move.
    - allows(scene): whether moves may be made in the scene.
    - hopeless(scene): whether no goal can be met from the scene on by callers who never end the moves around it.
    The rest is None if the move has ended; the scene is None if nothing behind the goals matters.
    """

    def __init__(self, rules):
        self.rules = rules
        self.scenes = Numbers()
        self.rests = Numbers()
        self.rests.of_value(None)
        self.nodes = Numbers()
        # For each node the origins that reach it, those by each number of moves, rows of origins and how they come
        # there, and what the ends of the callback lead to.
        self.seen = []
        self.by_cost = []
        self.history = []
        self.end_rows = []
        # For each scene its nodes, its starts, and the scenes that one move leads to, with the number of moves.
        self.nodes_at = []
        self.start_rows = []
        self.edges = []
        self.origins = []
        self.bits = {}
        # What is to be taken, by the number of moves. No row before the lowest has anything.
        self.buckets = []
        self.lowest = 0
        # The number of moves up to which everything is known that callers can reach at all.
        self.front = 0
        self.found = {}
        self._put(0, self._node(NO_REST, self._scene(rules.first())), WHOLE, ("first", None, None))

    def go(self, goals=(), most=None):
        """Goes on until one of the goals is met by as few moves as possible, or nothing is left that takes fewer moves
        than most."""
        while self.lowest < len(self.buckets):
            cost = self.lowest
            known = max(cost, self.front)
            if not self.buckets[cost]:
                self.lowest += 1
            elif most is not None and known >= most:
                return
            elif min([self.found[goal][0] for goal in goals if goal in self.found], default=known + 1) <= known:
                return
            else:
                self._empty(cost)

    def _scene(self, scene):
        """The number of a scene."""
        number = self.scenes.of_value(scene)
        if number == len(self.edges):
            self.nodes_at.append([])
            self.start_rows.append(None)
            self.edges.append([])
        return number

    def _node(self, rest, scene):
        """The number of the node of a rest and a scene."""
        node = self.nodes.of_value((rest, scene))
        if node == len(self.seen):
            self.seen.append(0)
            self.by_cost.append({})
            self.history.append([])
            self.end_rows.append(None)
            self.nodes_at[scene].append(node)
        return node

    def _put(self, cost, node, bits, reason):
        """Has the origins come to the node later."""
        if not bits & ~self.seen[node]:
            return
        while len(self.buckets) <= cost:
            self.buckets.append({})
        bucket = self.buckets[cost]
        if node not in bucket:
            bucket[node] = [(bits, reason)]
            if cost < self.lowest:
                self.lowest = cost
        elif bits & ~bucket[node][-1][0]:
            # Each row has also the origins of those before it.
            bucket[node].append((bits | bucket[node][-1][0], reason))

    def _empty(self, cost):
        """Takes all that there is for this number of moves, and what comes to it meanwhile."""
        bucket = self.buckets[cost]
        while bucket:
            for node in list(bucket):
                self._arrive(cost, node, bucket.pop(node))

    def _arrive(self, cost, node, rows):
        """Has origins come to the node."""
        rest, scene = self.nodes.rows[node]
        before = self.seen[node]
        learnt = 0
        for bits, reason in rows:
            fresh = bits & ~self.seen[node]
            if fresh:
                self.seen[node] |= fresh
                self.history[node].append((fresh, reason))
                if reason[0] != "nest":
                    learnt |= fresh
        fresh = self.seen[node] & ~before
        if not fresh:
            return
        self.by_cost[node][cost] = self.by_cost[node].get(cost, 0) | fresh
        if fresh & WHOLE:
            self.front = cost
        for there, many in list(self.edges[scene]):
            self._put(cost + many, self._node(rest, there), fresh, ("nest", node, there))
        if rest != NO_REST:
            self._arrive_inside(cost, node, fresh)
        else:
            self._arrive_between(cost, node, fresh, learnt)

    def _arrive_between(self, cost, node, fresh, learnt):
        """Has origins come to a node at which no move is under way, those in learnt by just one move."""
        _, scene = self.nodes.rows[node]
        self._learn(cost, scene, learnt)
        if fresh & WHOLE and not self.rules.hopeless(self.scenes.rows[scene]):
            for number, row in enumerate(self.start_rows_at(scene)):
                self._follow(cost + 1, row, WHOLE, ("start", node, number))

    def _arrive_inside(self, cost, node, fresh):
        """Has origins come to a node at which a callback is run."""
        _, scene = self.nodes.rows[node]
        if self.rules.allows(self.scenes.rows[scene]):
            self._demand(scene)
            if fresh & WHOLE:
                self._put(cost, self._node(NO_REST, scene), WHOLE, ("dive", node, None))
        for number, row in enumerate(self.end_rows_at(node)):
            self._follow(cost, row, fresh, ("resume", node, number))

    def _demand(self, scene):
        """Makes the scene an origin."""
        if scene not in self.bits:
            bit = WHOLE << (len(self.origins) + 1)
            self.bits[scene] = bit
            self.origins.append(scene)
            for number, row in enumerate(self.start_rows_at(scene)):
                self._follow(1, row, bit, ("start", self._node(NO_REST, scene), number))

    def _follow(self, cost, row, bits, reason):
        """Takes up what a move, or the end of a callback, leads to."""
        _, goals, node = row
        if bits & WHOLE:
            for goal in goals:
                if goal not in self.found or cost < self.found[goal][0]:
                    self.found[goal] = (cost, reason)
        if node is not None:
            self._put(cost, node, bits, reason)

    def _learn(self, cost, there, fresh):
        """Takes up that one move, with the moves inside of it, leads from these origins to a scene."""
        left = fresh >> 1
        while left:
            low = left & -left
            left ^= low
            scene = self.origins[low.bit_length() - 1]
            if scene != there:
                self._join(cost, scene, there)

    def _join(self, many, scene, there):
        """Has all that comes to the one scene come to the other one, by so many moves more."""
        self.edges[scene].append((there, many))
        for node in list(self.nodes_at[scene]):
            rest, _ = self.nodes.rows[node]
            target = self._node(rest, there)
            for cost, bits in self.by_cost[node].items():
                self._put(cost + many, target, bits, ("nest", node, there))

    def start_rows_at(self, scene):
        """The moves from the scene on, each with its goals and the node that it leads to."""
        if self.start_rows[scene] is None:
            self.start_rows[scene] = self._rows(self.rules.starts(self.scenes.rows[scene]))
        return self.start_rows[scene]

    def end_rows_at(self, node):
        """The ends of the callback at a node, each with its goals and the node that it leads to."""
        if self.end_rows[node] is None:
            rest, scene = self.nodes.rows[node]
            self.end_rows[node] = self._rows(self.rules.resumes(self.rests.rows[rest], self.scenes.rows[scene]))
        return self.end_rows[node]

    def _rows(self, rows):
        """The rows of the rules with nodes in place of rests and scenes. Of rows that differ in nothing else than the
        move or the ending, only the first stays."""
        kept = {}
        for first, goals, rest, scene in rows:
            node = None
            if scene is not None:
                node = self._node(self.rests.of_value(rest), self._scene(scene))
            if (goals, node) not in kept:
                kept[(goals, node)] = first
        return [(first, goals, node) for (goals, node), first in kept.items()]
