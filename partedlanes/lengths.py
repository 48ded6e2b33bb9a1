"""Greatest numbers of steps of machines, or rings by which there are none."""

from partedlanes.checks import is_whole
from partedlanes.claims import Claims
from partedlanes.countdowns import Countdown
from partedlanes.errors import NoScene
from partedlanes.guards import PILE_RULES, ask_most, ask_program, ask_rule
from partedlanes.loads import are_datas
from partedlanes.longest import Longest
from partedlanes.machines import Machine
from partedlanes.plots import Plot, is_scene
from partedlanes.readings import is_arrival, read_scenes
from partedlanes.roads import joins_of
from partedlanes.sets import Sets
from partedlanes.showings import datas_of
from partedlanes.sketches import sketch_of
from partedlanes.straights import takings_along
from partedlanes.treks import carry, trek_along
from partedlanes.weaves import Weave


class Steps:
    """The greatest numbers of steps of the machines of a program, of any number of lanes with any data."""

    def __init__(self, program, *, rule="told", limit=4000):
        self.program = program
        self.sketch = sketch_of(program, rule, limit)
        self.lengths = _lengths_of(self.sketch)
        self.greatest = self.lengths.greatest
        self.wait = self.lengths.wait

    def __contains__(self, value):
        return is_scene(self.program, value, False) and self.sketch.holds(self.sketch.coded(value))

    def __len__(self):
        return len(self.sketch.all_scenes())

    def __getitem__(self, scene):
        if scene not in self:
            raise NoScene(scene)
        return None if self.lengths.endless else self.lengths.length(self.sketch.coded(scene))

    def __iter__(self):
        raise TypeError("take the table of the steps to go over them")

    def is_endless(self):
        """Whether there is a ring."""
        return self.lengths.endless

    def ring(self):
        """A list of scenes each of which leads to the next one, the last one to the first, or None."""
        if not self.lengths.endless:
            return None
        return [self.sketch.full_plot().tell(scene) for scene in self.lengths.ring()]

    def numbers(self, scene):
        """Tuples (arrival, number) of a scene, ascending, None if the program is endless."""
        if scene not in self:
            raise NoScene(scene)
        return None if self.lengths.endless else self._numbers(self.sketch.coded(scene))

    def _numbers(self, scene):
        crowds = self.sketch.full_plot().crowds
        return sorted([(crowds.crowd_of(code), number) for code, number in self.lengths.numbers_of(scene)])

    def table(self):
        """Tuples (scene, length, numbers) of all scenes, ascending, None if the program is endless."""
        if self.lengths.endless:
            return None
        plot = self.sketch.full_plot()
        return sorted([
            (plot.tell(scene), self.lengths.length(scene), self._numbers(scene)) for scene in self.sketch.all_scenes()
        ])


def _lengths_of(sketch):
    """The lengths of the scenes of a sketch."""
    return Countdown(sketch) if sketch.arms is None else Longest(sketch.plot, sketch.start)


def leads(program, scene, *, rule="told", limit=4000):
    """The scenes to which a scene that can come leads, ascending."""
    sets = Sets(program, rule=rule, limit=limit)
    if scene not in sets:
        raise NoScene(scene)
    return _led_to(sets.sketch, scene)


def is_ring(program, value, *, rule="told", limit=4000):
    """Whether any value is a list of scenes that can come, each one leading to the next, the last one to the first."""
    sets = Sets(program, rule=rule, limit=limit)
    if not isinstance(value, list) or len(value) == 0 or not all([scene in sets for scene in value]):
        return False
    return all([later in _led_to(sets.sketch, scene) for scene, later in zip(value, [*value[1:], value[0]])])


def _led_to(sketch, scene):
    """The scenes to which a scene leads; scenes as the document has them."""
    plot, least = sketch.full_plot(), sketch.whole_table()
    laters = least.leads(sketch.coded(scene))
    shown = [after for later in laters if plot.is_open(later) for after in least.leads(later)]
    return sorted(set([plot.tell(later) for later in [*laters, *shown] if not plot.is_open(later)]))


def is_steps_table(program, rule, value):
    """Whether any value tells lengths and numbers of scenes that nothing that can come exceeds."""
    ask_program(program)
    ask_rule(rule, PILE_RULES)
    plot = Plot(program, joins_of(program, rule), False)
    scenes = read_scenes(plot, value, 3)
    if scenes is None or plot.first_scene(1) not in scenes:
        return False
    numbers = {scene: _read_numbers(plot, scenes[scene][1]) for scene in scenes}
    if not all([numbers[scene] is not None and _is_number(scenes[scene][0]) for scene in scenes]):
        return False
    claims = Claims(plot, {scene: scenes[scene][0] for scene in scenes}, numbers)
    return all([_is_enough(claims, scene) for scene in scenes])


def _is_number(value):
    return is_whole(value) and value >= 0


def _read_numbers(plot, value):
    """A dict of arrivals and their numbers that any value tells, or None if it is no such list."""
    if not isinstance(value, list):
        return None
    found = {}
    for entry in value:
        if not isinstance(entry, tuple) or len(entry) != 2:
            return None
        if not is_arrival(plot.program, entry[0], False) or not _is_number(entry[1]):
            return None
        found[plot.crowds.code_of(entry[0])] = entry[1]
    return found if len(found) == len(value) else None


def _is_enough(claims, scene):
    """Whether the length and the numbers that are told of a scene are as great as they have to be."""
    length, numbers = claims.told(scene)
    asked = claims.asked(scene)
    if asked is None or length < max([asked[0], *[numbers[arrival] for arrival in numbers]]):
        return False
    return all([arrival in numbers and asked[1][arrival] <= numbers[arrival] for arrival in asked[1]])


def lanes_for_most(program, *, rule="told", limit=4000):
    """Data of lanes whose machine does as many steps as any, None if there is no greatest number of steps."""
    sketch = sketch_of(program, rule, limit)
    lengths = _lengths_of(sketch)
    if lengths.endless:
        return None
    if sketch.arms is None:
        return datas_of(takings_along(sketch, lengths.way_to_most()))
    weave = Weave(sketch.plot)
    carry(lengths, trek_along(lengths, lengths.leads_to_most()), weave)
    return datas_of(weave.takings())


def is_longer(program, datas, steps, *, rule="told"):
    """Whether any value is data with which a machine does more than so many steps."""
    ask_program(program)
    ask_rule(rule, PILE_RULES)
    ask_most(steps)
    if not are_datas(program, datas):
        return False
    machine = Machine(program, datas, rule=rule)
    machine.go(steps)
    return machine.step()[0] == "done"
