"""Unions: the crowds that each of some crowds is together with each of others."""


class Unions:
    """Unions of crowds, which are told by their numbers; those that were found are kept, as many scenes share them."""

    def __init__(self, counted):
        self.counted = counted
        self.known = {}

    def together(self, firsts, seconds):
        """A dict of all crowds that one of some and one of others are together, each with two such crowds.

        firsts and seconds are tuples; the dict is not to be changed.
        """
        if (firsts, seconds) not in self.known:
            found = {}
            for first in firsts:
                for second in seconds:
                    found[first + second if self.counted else first | second] = (first, second)
            self.known[(firsts, seconds)] = found
        return self.known[(firsts, seconds)]


def grouped(marks):
    """A dict of all values of a dict, each with the tuple of its keys, ascending."""
    found = {}
    for key in sorted(list(marks)):
        found.setdefault(marks[key], []).append(key)
    return {mark: tuple(found[mark]) for mark in found}


def arrivals_of_kind(arrivals, ended):
    """Those of a dict of arrivals with which all lanes have ended, or the others."""
    return {arrival: arrivals[arrival] for arrival in arrivals if (arrival == 0) == ended}
