"""Numbers for things: the same thing has the same number, an unlike one another."""


class ThingNumbers:
    """Numbers given to things as they are met.

    Things may be nested too deep to stand as keys themselves.
    """

    def __init__(self):
        self.known = {}

    def number(self, thing):
        """The number of this thing."""
        todo = [(thing, False)]
        done = []
        while todo:
            part, ready = todo.pop()
            if not isinstance(part, tuple):
                done.append(self.keyed(part))
            elif ready:
                start = len(done) - len(part)
                key = tuple(done[start:])
                del done[start:]
                done.append(self.keyed(key))
            else:
                todo.append((part, True))
                todo.extend([(inner, False) for inner in part[::-1]])
        return done[0]

    def keyed(self, key):
        """The number of a text, of a number, or of a tuple by the numbers of its parts."""
        if key not in self.known:
            self.known[key] = len(self.known)
        return self.known[key]
