"""Trials: work on a copy, which is kept or not."""


class Trial:
    """For one `with`: gives a copy of its holder, which is then as the copy is, if that is kept.

    Holders have a `standing`, which two of them may share: one that is `shared` makes its own ahead of a change.
    """

    def __init__(self, holder):
        self.holder = holder
        self.work = None

    def __enter__(self):
        self.work = self.holder.copy()
        return self.work

    def __exit__(self, kind, value, trace):
        if kind is None and self.work.keep is not None:
            self.holder.standing = self.work.standing
            self.holder.shared = True
            self.work.shared = True
