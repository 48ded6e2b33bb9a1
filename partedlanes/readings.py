"""Any values, read as tables of scenes."""

from partedlanes.crowds import is_crowd
from partedlanes.plots import is_scene


def read_table(plot, value):
    """A dict of scenes, each with a dict of its arrivals, which have the number 0; None for any other value."""
    scenes = read_scenes(plot, value, 2)
    if scenes is None:
        return None
    numbers = {scene: read_arrivals(plot, scenes[scene][0]) for scene in scenes}
    return None if any([numbers[scene] is None for scene in numbers]) else numbers


def read_scenes(plot, value, parts):
    """A dict of scenes and what stands behind them in any value, or None.

    It is None if the value is no list of tuples of so many parts, the first one a scene, none twice.
    """
    if not isinstance(value, list):
        return None
    found = {}
    for entry in value:
        if not isinstance(entry, tuple) or len(entry) != parts:
            return None
        if not is_scene(plot.program, entry[0], plot.crowds.counted):
            return None
        found[plot.coded(entry[0])] = entry[1:]
    return found if len(found) == len(value) else None


def read_arrivals(plot, value):
    """The number of each crowd of a list of crowds and (), or None if any value is no such list."""
    counted = plot.crowds.counted
    if not isinstance(value, list):
        return None
    if not all([is_arrival(plot.program, arrival, counted) for arrival in value]):
        return None
    return {plot.crowds.code_of(arrival): 0 for arrival in value}


def is_arrival(program, value, counted):
    """Whether any value is a crowd or ()."""
    return (isinstance(value, tuple) and len(value) == 0) or is_crowd(program, value, counted)
