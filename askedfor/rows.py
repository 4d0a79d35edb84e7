"""Rows: what the conditions on them ask for, and not more."""


class Rows:
    """Variables that stand for rows, and the conditions on them."""

    def __init__(self):
        # For each variable, the variables that contain its operations, each with those left out.
        self.targets = []
        # For each operation, the variables that contain it by a condition of its own.
        self.holders = {}

    def fresh(self):
        """Return a new variable."""
        self.targets.append([])
        return len(self.targets) - 1

    def contain(self, row, name):
        """Ask that a variable contains an operation."""
        self.holders.setdefault(name, []).append(row)

    def flow(self, source, target, without):
        """Ask that the target contains what the source contains, without some operations."""
        self.targets[source].append((target, tuple(without)))

    def same(self, one, other):
        """Ask that two variables are the same."""
        self.flow(one, other, [])
        self.flow(other, one, [])

    def least(self):
        """Return the list of the least rows of all variables."""
        found = [[] for _ in self.targets]
        for name in sorted(self.holders):
            for row in self.reached(name):
                found[row].append(name)
        return [tuple(names) for names in found]

    def reached(self, name):
        """Return the list of the variables that must contain an operation, each once."""
        seen = {}
        waiting = list(self.holders[name])
        while waiting:
            row = waiting.pop()
            if row not in seen:
                seen[row] = True
                waiting.extend([target for target, without in self.targets[row] if name not in without])
        return list(seen)
