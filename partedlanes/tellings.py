"""Scenes as the document has them."""


def told_scenes(plot, scenes):
    """Scenes, ascending."""
    return sorted([plot.tell(scene) for scene in scenes])


def told_arrivals(plot, codes):
    """The crowds with which an entry comes to its join, ascending; () if all its lanes end."""
    return sorted([plot.crowds.crowd_of(code) for code in codes])
