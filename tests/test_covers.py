"""[22] and [24]: as few lanes as can be, for what is to be shown."""

import itertools
import unittest

from partedlanes.covers import Cover
from partedlanes.least import STEP
from partedlanes.sets import Sets
from partedlanes.treks import cheapest_leads
from tests.literal import chances
from tests.literal_scenes import Rules
from tests.test_sets import programs


def graph(chance, many):
    """Any ways between so many nodes, to greater numbers alone, by which node 0 leads to all others."""
    behind = [[] for _ in range(many)]
    for node in range(1, many):
        for earlier in chance.sample(range(node), min(node, chance.choice([1, 1, 2]))):
            behind[earlier].append(node)
    return behind


def most_apart(behind):
    """The greatest number of nodes of which no one leads to another one."""
    many = len(behind)
    leads = [set() for _ in range(many)]
    for node in reversed(range(many)):
        for later in behind[node]:
            leads[node] |= {later} | leads[later]
    for size in range(many, 0, -1):
        for nodes in itertools.combinations(range(many), size):
            if not any(other in leads[one] for one, other in itertools.combinations(nodes, 2)):
                return size
    return 0


class TestCovers(unittest.TestCase):
    def test_all_nodes_by_the_fewest_roads(self):
        found = set()
        for chance in chances(120):
            behind = graph(chance, chance.randint(1, 10))
            roads = Cover(behind).roads()
            for road in roads:
                self.assertEqual([road[0], behind[road[-1]]], [0, []])
                self.assertTrue(all(later in behind[node] for node, later in zip(road, road[1:])))
            self.assertEqual({node for road in roads for node in road}, set(range(len(behind))))
            self.assertEqual(len(roads), most_apart(behind), behind)
            found.add(len(roads))
        self.assertTrue({1, 2, 3, 4} <= found)


class TestFewestSteps(unittest.TestCase):
    def test_scenes_are_come_to_with_the_fewest_steps(self):
        for chance, program, rule in programs(60):
            rules = Rules(program, rule)
            table = rules.least()
            steps, numbers = rules.shortest(table)
            found = Sets(program, rule=rule).found
            for scene in found.sure:
                if scene[0] >= 0:
                    told = {found.plot.crowds.crowd_of(arrival): cost // STEP
                            for arrival, cost in found.sure[scene].items()}
                    self.assertEqual(told, numbers[found.plot.tell(scene)], (program.rows, rule))
            for scene in chance.sample(sorted(table), min(len(table), 5)):
                cost, leads = cheapest_leads(found, [found.plot.coded(scene)])
                self.assertEqual(cost // STEP, steps[scene], (program.rows, rule))
                self.assertEqual([lead[1] for lead in leads][-1:], [found.plot.coded(scene)] if leads else [])


if __name__ == "__main__":
    unittest.main()
