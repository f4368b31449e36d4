"""[16] nets and which lists are flows of them; [2] as far as it reaches them."""

import inspect
import itertools
import random
import unittest

from crosshall import nets
from crosshall.errors import NoNet
from crosshall.nets import asked_net, holds_flow
from helper import random_net, refused

GREAT = 10 ** 60 - 1
RING = [(0, 1, 0, 5), (1, 2, 1, 4), (2, 0, 2, 9)]


class AskedNet(unittest.TestCase):
    def test_right_ones(self):
        for many, arcs in [
            (1, []), (2, []), (120, []), (2, [(0, 1, 0, 0)]), (2, [(1, 0, 3, 3)]), (2, [(0, 1, 0, 1), (0, 1, 0, 1)]),
            (2, [(0, 1, 0, 1), (1, 0, 0, 1)]), (3, RING), (120, [(119, 0, 0, GREAT), (0, 119, GREAT, GREAT)]),
            (2, [(0, 1, 0, 7)] * 300), (120, [(at % 120, (at + 7) % 120, at, 2 * at) for at in range(300)]),
        ]:
            self.assertIs(asked_net(many, arcs), True)

    def test_none_and_121_nodes(self):
        for many in (0, -1, 121, 122, 300, GREAT, -GREAT):
            refused(self, NoNet, asked_net, many, [])
            refused(self, NoNet, asked_net, many, [(0, 1, 0, 1)])

    def test_301_arcs(self):
        for many in (301, 302, 400):
            refused(self, NoNet, asked_net, 2, [(0, 1, 0, 7)] * many)

    def test_nodes_that_are_not_there(self):
        for many, begin, end in [
            (1, 0, 1), (1, 1, 0), (2, 0, 2), (2, 2, 0), (2, -1, 0), (2, 0, -1), (120, 0, 120), (120, 120, 0),
            (3, GREAT, 0), (3, 0, -GREAT), (2, 2, 3),
        ]:
            refused(self, NoNet, asked_net, many, [(begin, end, 0, 1)])
        refused(self, NoNet, asked_net, 3, RING + [(2, 3, 0, 1)])
        refused(self, NoNet, asked_net, 3, [(3, 2, 0, 1)] + RING)

    def test_arcs_from_a_node_to_itself(self):
        for node in (0, 1, 2):
            refused(self, NoNet, asked_net, 3, [(node, node, 0, 1)])
            refused(self, NoNet, asked_net, 3, RING + [(node, node, 0, 0)])

    def test_least_and_most(self):
        for least, most in [(-1, 0), (-1, 5), (1, 0), (6, 5), (0, -1), (-2, -1), (GREAT, GREAT - 1), (-GREAT, GREAT)]:
            refused(self, NoNet, asked_net, 2, [(0, 1, least, most)])
            refused(self, NoNet, asked_net, 3, RING + [(0, 1, least, most)])

    def test_bounds_of_numbers_are_no_refusal(self):
        self.assertIs(asked_net(2, [(0, 1, 10 ** 60, 10 ** 61)]), True)


class HoldsFlow(unittest.TestCase):
    def test_right_ones(self):
        for many, arcs, flow in [
            (1, [], []), (120, [], []), (3, RING, [2, 2, 2]), (3, RING, [3, 3, 3]), (3, RING, [4, 4, 4]),
            (2, [(0, 1, 0, 5), (1, 0, 0, 5)], [0, 0]), (2, [(0, 1, 0, 5), (1, 0, 0, 5)], [5, 5]),
            (2, [(0, 1, 0, 5), (0, 1, 1, 1), (1, 0, 0, 9)], [4, 1, 5]), (2, [(0, 1, 0, 3)], [0]),
            (2, [(0, 1, GREAT, GREAT), (1, 0, 0, GREAT)], [GREAT, GREAT]), (120, RING, [2, 2, 2]),
        ]:
            self.assertIs(holds_flow(many, arcs, flow), True)

    def test_beyond_least_and_most(self):
        for flow in ([1, 1, 1], [0, 0, 0], [5, 5, 5], [-1, -1, -1], [9, 9, 9]):
            self.assertIs(holds_flow(3, RING, flow), False)
        pair = [(0, 1, 0, 5), (1, 0, 0, 5)]
        for number in (-1, 6, GREAT, -GREAT):
            self.assertIs(holds_flow(2, pair, [number, number]), False)
        self.assertIs(holds_flow(2, [(0, 1, 0, 4), (1, 0, 0, 5)], [5, 5]), False)
        self.assertIs(holds_flow(2, [(0, 1, 0, 5), (1, 0, 4, 5)], [3, 3]), False)

    def test_more_in_than_out(self):
        for flow in ([2, 2, 3], [3, 2, 2], [2, 3, 2], [4, 4, 3]):
            self.assertIs(holds_flow(3, RING, flow), False)
        self.assertIs(holds_flow(2, [(0, 1, 0, 3)], [1]), False)
        self.assertIs(holds_flow(2, [(0, 1, 0, GREAT), (1, 0, 0, GREAT)], [GREAT, GREAT - 1]), False)
        # All comes to nought, but not at each node.
        self.assertIs(holds_flow(4, [(0, 1, 0, 3), (2, 3, 0, 3)], [1, 1]), False)

    def test_of_any_length(self):
        for flow in ([], [2], [2, 2], [2, 2, 2, 2], [2, 2, 2, 0], [2] * 300):
            self.assertIs(holds_flow(3, RING, flow), False)
        self.assertIs(holds_flow(1, [], [0]), False)
        self.assertIs(holds_flow(2, [(0, 1, 0, 1)], []), False)
        self.assertIs(holds_flow(2, [(0, 1, 0, 1)], [0, 0]), False)

    def test_beside_a_plain_reckoning(self):
        chance = random.Random(16)
        seen = []
        for turn in range(60):
            many, arcs = random_net(chance, 4, 4, 2)
            for flow in itertools.product(range(-1, 4), repeat=len(arcs)):
                right = all(arc[2] <= number <= arc[3] for arc, number in zip(arcs, flow))
                for node in range(many):
                    brought = sum(number for arc, number in zip(arcs, flow) if arc[1] == node)
                    right = right and brought == sum(number for arc, number in zip(arcs, flow) if arc[0] == node)
                self.assertIs(holds_flow(many, arcs, list(flow)), right)
                seen.append(right)
        self.assertTrue(seen.count(True) > 50)


class Unchanged(unittest.TestCase):
    def test_what_is_handed_in(self):
        arcs = list(RING)
        flow = [2, 2, 2]
        asked_net(3, arcs)
        holds_flow(3, arcs, flow)
        holds_flow(3, arcs, [2, 2])
        refused(self, NoNet, asked_net, 2, arcs)
        self.assertEqual((arcs, flow), (RING, [2, 2, 2]))


class Interface(unittest.TestCase):
    def test_arguments(self):
        told = {"asked_net": ["many", "arcs"], "holds_flow": ["many", "arcs", "flow"]}
        for name, arguments in told.items():
            self.assertEqual(list(inspect.signature(getattr(nets, name)).parameters), arguments)


if __name__ == "__main__":
    unittest.main()
