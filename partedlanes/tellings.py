"""Least tables as they are told: dicts of scenes, ascending, with lists of their arrivals."""


def told_scenes(found):
    """A dict of all scenes of a least table, ascending, with their arrivals, ascending."""
    plot = found.plot
    told = {
        plot.tell(scene): sorted([plot.crowds.crowd_of(arrival) for arrival in arrivals])
        for scene, arrivals in found.sure.items() if not plot.is_open(scene)
    }
    return {scene: told[scene] for scene in sorted(list(told))}


def table_of(told):
    """A new table of these scenes."""
    return [(scene, list(arrivals)) for scene, arrivals in told.items()]


def round_scenes(told):
    """Those of these scenes that have no arrivals."""
    return [scene for scene, arrivals in told.items() if len(arrivals) == 0]
