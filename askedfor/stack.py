"""The stack of a run: the context of what is evaluated, cut at the handlers.

It consists of pieces: one for each handler that has not ended, and one at the bottom. The frames of
a piece are a chain from the innermost one outwards, (frame, outer), with None at its end. So what is
kept shares its frames with the stack, and nothing is copied.
"""

from askedfor.runs import Run


class Stack(Run):
    """A run that has a stack of pieces, and counts them."""

    def __init__(self, steps):
        Run.__init__(self, steps)
        # For each piece, the expression of its handler with its bindings, and its frames.
        self.handlers = [None]
        self.frames = [None]
        self.kept = 0
        self.most = 1

    def wait(self, frame):
        """Put a frame into the uppermost piece."""
        self.frames[-1] = (frame, self.frames[-1])

    def waiting(self):
        """Take the innermost frame of the uppermost piece, or return None if it has none."""
        if self.frames[-1] is None:
            return None
        frame, self.frames[-1] = self.frames[-1]
        return frame

    def put(self, handler):
        """Put a piece on the stack."""
        self.put_back(([handler], [None]))

    def put_back(self, pieces):
        """Put the pieces that were kept on the stack."""
        handlers, frames = pieces
        self.handlers.extend(handlers)
        self.frames.extend(frames)
        self.most = max(self.most, len(self.handlers))

    def take(self):
        """Take the uppermost piece off the stack, and return its handler."""
        self.frames.pop()
        return self.handlers.pop()

    def keep(self, place):
        """Take the pieces from one on off the stack, and return their handlers and their frames."""
        handlers = self.handlers[place:]
        frames = self.frames[place:]
        del self.handlers[place:]
        del self.frames[place:]
        self.kept += len(handlers)
        return handlers, frames

    def answering(self, operation):
        """Return the place of the piece that answers and its clause, or None if there is none."""
        for place in range(len(self.handlers) - 1, 0, -1):
            handle, _ = self.handlers[place]
            for clause in handle[3]:
                if clause[0] == operation:
                    return place, clause
        return None
