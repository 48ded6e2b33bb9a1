"""[22] and [24]: as few lanes as can be, for what is to be shown."""

import itertools
import unittest

from partedlanes.costs import STEP, Costs
from partedlanes.covers import Cover
from partedlanes.lanes import Data
from partedlanes.machines import Machine
from partedlanes.sets import Sets
from partedlanes.straights import straight_way, takings_along
from partedlanes.treks import cheapest_leads
from tests.literal import chances
from tests.literal_scenes import Rules
from tests.test_sets import costs_of, programs


def graph(chance, many):
    """Any ways between so many nodes, to greater numbers alone, by which node 0 leads to all others."""
    behind = [[] for _ in range(many)]
    for node in range(1, many):
        for earlier in chance.sample(range(node), min(node, chance.choice([1, 1, 2]))):
            behind[earlier].append(node)
    return behind


def most_apart(behind):
    """The greatest number of nodes of which no one leads to another one."""
    many = len(behind)
    leads = [set() for _ in range(many)]
    for node in reversed(range(many)):
        for later in behind[node]:
            leads[node] |= {later} | leads[later]
    for size in range(many, 0, -1):
        for nodes in itertools.combinations(range(many), size):
            if not any(other in leads[one] for one, other in itertools.combinations(nodes, 2)):
                return size
    return 0


class TestCovers(unittest.TestCase):
    def test_all_nodes_by_the_fewest_roads(self):
        found = set()
        for chance in chances(120):
            behind = graph(chance, chance.randint(1, 10))
            roads = Cover(behind).roads()
            for road in roads:
                self.assertEqual([road[0], behind[road[-1]]], [0, []])
                self.assertTrue(all(later in behind[node] for node, later in zip(road, road[1:])))
            self.assertEqual({node for road in roads for node in road}, set(range(len(behind))))
            self.assertEqual(len(roads), most_apart(behind), behind)
            found.add(len(roads))
        self.assertTrue({1, 2, 3, 4} <= found)


class TestFewestSteps(unittest.TestCase):
    def test_scenes_are_come_to_with_the_fewest_steps(self):
        for chance, program, rule in programs(60):
            rules = Rules(program, rule)
            table = rules.least()
            steps, numbers = rules.shortest(table)
            sketch = Sets(program, rule=rule).sketch
            plot, costs = sketch.full_plot(), Costs(sketch.full_plot())
            scenes = sketch.all_scenes()
            chance.shuffle(scenes)
            for scene in scenes:
                told = {plot.crowds.crowd_of(arrival): cost // STEP for arrival, cost in costs_of(costs, scene).items()}
                self.assertEqual(told, numbers[plot.tell(scene)], (program.rows, rule))
            for scene in chance.sample(scenes, min(len(scenes), 5)):
                # Whatever is known of the scenes from which the goal may be come to, the way costs as much.
                near = None
                if plot.is_trunk(scene):
                    near = sketch.that_come_to({scene[0]: 1 << scene[2]}, False)
                for known in (None, near):
                    cost, leads = cheapest_leads(Costs(plot), sketch.start, {scene: True}, known)
                    self.assertEqual(cost // STEP, steps[plot.tell(scene)], (program.rows, rule))
                    self.assertEqual([lead[1] for lead in leads][-1:], [scene] if leads else [])

    def test_straight_ways_have_the_fewest_steps_without_partings(self):
        found = {True: 0, False: 0}
        for chance, program, rule in programs(120):
            rules = Rules(program, rule)
            sketch = Sets(program, rule=rule).sketch
            plot = sketch.full_plot()
            steps, _ = rules.shortest(rules.least())
            for scene in [scene for scene in sketch.all_scenes() if plot.is_trunk(scene)]:
                way = straight_way(sketch, scene[0], scene[2], 1000)
                found[way is not None] += 1
                if way is not None:
                    self.goes_straight(program, rule, sketch, way)
                    # Only ways of narrower crowds may be longer; there may be too many steps, but not too few.
                    widest = max(len(sketch.crowd_of(code)) for _, code in way)
                    if widest > len(sketch.crowd_of(scene[2])) and sketch.arms is None:
                        self.assertEqual(len(way) - 1, steps[plot.tell(scene)])
                    self.assertEqual(straight_way(sketch, scene[0], scene[2], len(way)), way)
                if sketch.arms is None:
                    fewest = steps[plot.tell(scene)]
                    self.assertLessEqual(len(straight_way(sketch, scene[0], scene[2], fewest + 1)) - 1, fewest)
                    if fewest > 0:
                        self.assertIsNone(straight_way(sketch, scene[0], scene[2], fewest))
        self.assertGreater(min(found.values()), 5, found)

    def goes_straight(self, program, rule, sketch, way):
        """A machine of the lanes that are told has just the crowds of the way, all lanes together."""
        takings = takings_along(sketch, way)
        machine = Machine(program, [Data(*values) for values in takings], rule=rule)
        for row, code in way:
            self.assertEqual(machine.pile()[-1][0], row)
            kinds = {machine.registers_of(lane) for lane in range(len(takings))}
            self.assertEqual(sorted(kinds), sketch.crowd_of(code))
            machine.step()


if __name__ == "__main__":
    unittest.main()
