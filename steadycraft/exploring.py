"""The game of what can be known: all nodes that come, and the ranks of those from which a wish can be broken."""

from steadycraft.errors import TooMany

MOST_NODES = 3000


class Game:
    """The nodes that come from first ones, by whatever rows; numbered as met, lost ones known.

    A base is a node without its row: a node's children by all rows have the same ones. ranks
    tell for each node, by its number, behind how many periods at most a wish can break
    against whatever chooses, None where it needn't; answers, by which base behind each row.
    """

    def __init__(self, branches, first_nodes, most):
        self._branches = branches
        self._most = most
        self._many_rows = len(branches.craft.levers)
        self._base_numbers = {}
        self._bases = []
        self._node_numbers = {}
        self._nodes = []
        # For each node the dict from base numbers that can follow to readings; of lost ones None.
        self._follows = []
        self.firsts = [self._met(node[0], self._base_number(node[1:])) for node in first_nodes]
        while len(self._follows) < len(self._nodes):
            self._follows.append(self._following(len(self._follows)))
        self.answers = [{} for _ in self._nodes]
        self.ranks = [0 if follows is None else None for follows in self._follows]
        self._rank()

    def _base_number(self, base):
        if base not in self._base_numbers:
            self._base_numbers[base] = len(self._bases)
            self._bases.append(base)
        return self._base_numbers[base]

    def _met(self, row, base_number):
        """The number of a node, a new one if it was not met so far."""
        key = (row, base_number)
        if key not in self._node_numbers:
            if self._most is not None and len(self._nodes) == self._most:
                raise TooMany(self._most)
            self._node_numbers[key] = len(self._nodes)
            self._nodes.append(key)
        return self._node_numbers[key]

    def _following(self, number):
        row, base_number = self._nodes[number]
        lacks, _, standings = self._bases[base_number]
        lots = self._branches.lots(row, standings)
        if lots is None:
            return None
        follows = {}
        for length, lot in lots:
            for reading, base in self._branches.bases(lacks, length, lot):
                follows.setdefault(self._base_number(base), reading)
        for base_number in follows:
            for lever in range(self._many_rows):
                self._met(lever, base_number)
        return follows

    def node(self, number):
        row, base_number = self._nodes[number]
        return (row,) + self._bases[base_number]

    def children(self, number, row):
        """The numbers of a node's children by a row."""
        return [self._node_numbers[(row, base_number)] for base_number in self._follows[number]]

    def _rank(self):
        parents = [[] for _ in self._bases]
        for number, follows in enumerate(self._follows):
            if follows is not None:
                for base_number in follows:
                    parents[base_number].append(number)
        # Nodes come by rank, so the answer that is found first has the least rank.
        queue = [number for number, rank in enumerate(self.ranks) if rank == 0]
        at = 0
        while at < len(queue):
            row, base_number = self._nodes[queue[at]]
            for parent in parents[base_number]:
                if row not in self.answers[parent]:
                    self.answers[parent][row] = base_number
                    if len(self.answers[parent]) == self._many_rows:
                        self.ranks[parent] = self.ranks[queue[at]] + 1
                        queue.append(parent)
            at += 1

    def safe_rows(self, number):
        """The rows behind which no answer leads to a break; none of a lost node."""
        if self.ranks[number] == 0:
            return []
        return [row for row in range(self._many_rows) if row not in self.answers[number]]

    def least_rank(self):
        """The least rank of a first node, None if none has one."""
        return min([self.ranks[number] for number in self.firsts if self.ranks[number] is not None], default=None)

    def choice(self):
        """A dict from nodes to rows, where no first node has a rank."""
        found, todo = {}, list(self.firsts)
        while len(todo) > 0:
            number = todo.pop()
            if number not in found:
                found[number] = self.safe_rows(number)[0]
                todo.extend(self.children(number, found[number]))
        return {self.node(number): found[number] for number in found}

    def spoiling(self, number):
        """A dict from nodes to pairs (rank, readings), from a node that has a rank."""
        found, todo = {}, [number]
        while len(todo) > 0:
            number = todo.pop()
            if number not in found:
                answers = self.answers[number]
                found[number] = self._spoiling_pair(number)
                todo.extend([self._node_numbers[(row, answers[row])] for row in answers])
        return {self.node(number): found[number] for number in found}

    def _spoiling_pair(self, number):
        if self.ranks[number] == 0:
            return (0, None)
        answers, readings = self.answers[number], self._follows[number]
        return self.ranks[number], tuple([readings[answers[row]] for row in range(self._many_rows)])
