"""Fitting: types that are not decided yet, and what is asked of them."""


class Types:
    """Types, stood for by integers from 0; what is asked of them decides them bit by bit."""

    def __init__(self, rows):
        # Functions that are the same have the same row.
        self.rows = rows
        # For each type its kind, the types directly inside of it, and the row of a function.
        # A type that is not decided yet has the kind None.
        self.forms = []
        # For each type one that is the same; the last one of such a chain stands for all of them.
        self.leads = []

    def made(self, kind, inside=(), row=None):
        """Return a new type."""
        self.forms.append((kind, inside, row))
        self.leads.append(len(self.leads))
        return len(self.leads) - 1

    def undecided(self):
        """Return a new type that is not decided yet."""
        return self.made(None)

    def plain(self, written):
        """Return a new type for a plain type."""
        return self.made(written[0], tuple([self.plain(part) for part in written[1:]]))

    def leader(self, one):
        """Return the type that stands for all that are the same as this one."""
        while self.leads[one] != one:
            # This makes the chain shorter for the next time.
            self.leads[one] = self.leads[self.leads[one]]
            one = self.leads[one]
        return one

    def inside(self, one):
        """Return the list of the types directly inside of a type."""
        return [self.leader(part) for part in self.forms[one][1]]

    def fit(self, one, other):
        """Ask that two types are the same, and tell whether they can be."""
        waiting = [(one, other)]
        while waiting:
            left, right = waiting.pop()
            left, right = self.leader(left), self.leader(right)
            if left == right:
                continue
            if self.forms[right][0] is None:
                left, right = right, left
            # They count as the same before their parts are looked at, so that this comes to an end
            # even if a type would have to contain itself.
            self.leads[left] = right
            kind, inside, row = self.forms[left]
            wanted, inside_other, other_row = self.forms[right]
            if kind not in (None, wanted):
                return False
            if kind == "fun":
                self.rows.same(row, other_row)
            waiting.extend(list(zip(inside, inside_other)))
        return not self.contains_itself(one)

    def inside_first(self, ones):
        """Return the list of all types in some types, each once, behind those inside of it."""
        found = []
        ended = {}
        waiting = list(ones)
        while waiting:
            one = self.leader(waiting[-1])
            if one not in ended:
                ended[one] = False
                waiting.extend(self.inside(one))
            else:
                waiting.pop()
                if not ended[one]:
                    ended[one] = True
                    found.append(one)
        return found

    def contains_itself(self, one):
        """Tell whether a type would have to contain itself, or one inside of it would."""
        seen = {}
        for each in self.inside_first([one]):
            # What is inside of a type stands before it, unless the type is inside of that, too.
            for part in self.inside(each):
                if part not in seen:
                    return True
            seen[each] = True
        return False

    def sizes(self, ones):
        """Return the list of the sizes of some types."""
        known = {}
        for one in self.inside_first(ones):
            known[one] = 1 + sum([known[part] for part in self.inside(one)])
        return [known[self.leader(one)] for one in ones]

    def results(self, ones, rows):
        """Return the list of some types as the document writes them, with these rows."""
        known = {}
        for one in self.inside_first(ones):
            known[one] = self.result(one, [known[part] for part in self.inside(one)], rows)
        return [known[self.leader(one)] for one in ones]

    def result(self, one, inside, rows):
        """Return a type as the document writes it; so are those inside of it written already."""
        kind, _, row = self.forms[one]
        if kind is None:
            return ("unit",)
        if kind == "fun":
            return (kind, inside[0], rows[row], inside[1])
        return (kind, *inside)
