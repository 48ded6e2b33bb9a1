"""Logs: lists that only grow, of which copies share the beginning."""


class Log:
    """The first entries of a list; it never changes, though the list may grow behind them."""

    def __init__(self, lines, many):
        self.lines = lines
        self.many = many

    def with_line(self, line):
        """This log and one more line."""
        # If another log has grown on the shared list, what stands there is not ours.
        lines = self.lines if len(self.lines) == self.many else self.lines[:self.many]
        lines.append(line)
        return Log(lines, self.many + 1)

    def told(self):
        """A new list of the lines."""
        return self.lines[:self.many]
