"""Trials: work on a copy, which is kept or not."""


class Trial:
    """For one `with`: gives a copy of its holder, which is then as the copy is, if that is kept."""

    def __init__(self, holder):
        self.holder = holder
        self.work = None

    def __enter__(self):
        self.work = self.holder.copy()
        return self.work

    def __exit__(self, kind, value, trace):
        if kind is None and self.work.keep is not None:
            self.holder.now = self.work.now
