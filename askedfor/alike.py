"""Comparing types of any size."""

# How many pairs of types are looked at one by one, at first.
MANY = 1000000


class Alike:
    """Tells whether types are the same."""

    def __init__(self):
        self.many = MANY

    def same(self, one, other):
        """Tell whether two types are the same."""
        waiting = [(one, other)]
        looks = 0
        while waiting:
            if looks == self.many:
                return self.same_at_once(waiting)
            looks += 1
            left, right = waiting.pop()
            if left[0] != right[0]:
                return False
            if left[0] == "pair":
                waiting.extend([(left[1], right[1]), (left[2], right[2])])
            elif left[0] == "fun":
                if left[2] != right[2]:
                    return False
                waiting.extend([(left[1], right[1]), (left[3], right[3])])
        return True

    def same_at_once(self, waiting):
        """Tell whether the two types of each pair are the same."""
        # Python's own comparison does not go as deep as types may be, so it is not used earlier.
        # But it sees at once where both share what is inside of them, and only types that do so
        # are this large. They will be compared again, so less is looked at one by one then.
        self.many = self.many // 2
        return all([left == right for left, right in waiting])
