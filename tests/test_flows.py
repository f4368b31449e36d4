"""[17] flows and cuts; [18] the greatest and the least on an arc; [2] as far as it reaches them."""

import inspect
import itertools
import random
import unittest

from crosshall import flows
from crosshall.errors import NoNet
from crosshall.flows import flow_of, greatest_on, least_on
from helper import random_net, refused

GREAT = 10 ** 60 - 1
RING = [(0, 1, 0, 5), (1, 2, 1, 4), (2, 0, 2, 9)]
NO_NETS = [
    (0, []), (-1, []), (121, []), (2, [(0, 1, 0, 1)] * 301), (2, [(0, 2, 0, 1)]), (2, [(-1, 0, 0, 1)]),
    (1, [(0, 1, 0, 1)]), (2, [(1, 1, 0, 1)]), (2, [(0, 1, -1, 1)]), (2, [(0, 1, 2, 1)]), (3, RING + [(0, 0, 0, 0)]),
]


def is_flow(many, arcs, flow):
    """The words of [16], one by one."""
    if type(flow) is not list or len(flow) != len(arcs) or not all(type(number) is int for number in flow):
        return False
    if not all(arc[2] <= number <= arc[3] for arc, number in zip(arcs, flow)):
        return False
    for node in range(many):
        brought = sum(number for arc, number in zip(arcs, flow) if arc[1] == node)
        taken = sum(number for arc, number in zip(arcs, flow) if arc[0] == node)
        if brought != taken:
            return False
    return True


def is_rising(many, nodes):
    return type(nodes) is list and nodes == sorted(set(nodes)) and all(node in range(many) for node in nodes)


def out_of(arcs, nodes):
    return [at for at, arc in enumerate(arcs) if arc[0] in nodes and arc[1] not in nodes]


def into(arcs, nodes):
    return [at for at, arc in enumerate(arcs) if arc[0] not in nodes and arc[1] in nodes]


def mosts(arcs, places):
    return sum(arcs[at][3] for at in places)


def leasts(arcs, places):
    return sum(arcs[at][2] for at in places)


def all_flows(many, arcs):
    ranges = [range(arc[2], arc[3] + 1) for arc in arcs]
    return [list(flow) for flow in itertools.product(*ranges) if is_flow(many, arcs, list(flow))]


class Told(unittest.TestCase):
    """What is told, held against the words of [17] and [18]."""

    def flow(self, many, arcs):
        told = flow_of(many, arcs)
        self.assertIs(type(told), tuple)
        self.assertEqual((len(told), told[0]), (2, "flow"))
        self.assertTrue(is_flow(many, arcs, told[1]))
        return told[1]

    def cut(self, many, arcs):
        told = flow_of(many, arcs)
        self.assertIs(type(told), tuple)
        self.assertEqual((len(told), told[0]), (2, "cut"))
        self.assertTrue(is_rising(many, told[1]))
        self.assertLess(mosts(arcs, out_of(arcs, told[1])), leasts(arcs, into(arcs, told[1])))
        return told[1]

    def tuple_of_three(self, many, arcs, at, told):
        self.assertIs(type(told), tuple)
        number, flow, nodes = told
        self.assertTrue(is_flow(many, arcs, flow))
        self.assertEqual(flow[at], number)
        self.assertTrue(is_rising(many, nodes))
        return told

    def greatest(self, many, arcs, flow, at):
        number, other, nodes = self.tuple_of_three(many, arcs, at, greatest_on(many, arcs, flow, at))
        if number == arcs[at][3]:
            self.assertEqual(nodes, [])
        else:
            others = into(arcs, nodes)
            others.remove(at)
            self.assertEqual(mosts(arcs, out_of(arcs, nodes)) - leasts(arcs, others), number)
        return number

    def least(self, many, arcs, flow, at):
        number, other, nodes = self.tuple_of_three(many, arcs, at, least_on(many, arcs, flow, at))
        if number == arcs[at][2]:
            self.assertEqual(nodes, [])
        else:
            others = out_of(arcs, nodes)
            others.remove(at)
            self.assertEqual(leasts(arcs, into(arcs, nodes)) - mosts(arcs, others), number)
        return number

    def both(self, many, arcs, flow, at):
        return self.least(many, arcs, flow, at), self.greatest(many, arcs, flow, at)


class FlowsAndCuts(Told):
    def test_no_arcs(self):
        for many in (1, 2, 120):
            self.assertEqual(flow_of(many, []), ("flow", []))

    def test_nets_that_have_a_flow(self):
        for many, arcs in [
            (3, RING), (2, [(0, 1, 0, 3)]), (2, [(0, 1, 2, 3), (1, 0, 0, 2)]), (2, [(0, 1, 3, 3), (1, 0, 3, 3)]),
            (2, [(0, 1, 2, 2), (0, 1, 3, 4), (1, 0, 0, 9)]), (120, RING),
            (4, [(0, 1, 1, 2), (1, 0, 1, 1), (2, 3, 4, 9), (3, 2, 0, 5)]),
            (3, [(0, 1, 4, 9), (1, 0, 0, 2), (1, 2, 0, 3), (2, 0, 1, 2)]),
        ]:
            self.flow(many, arcs)

    def test_nets_that_have_none(self):
        for many, arcs in [
            (2, [(0, 1, 1, 3)]), (2, [(0, 1, 3, 3), (1, 0, 0, 2)]), (3, [(0, 1, 0, 5), (1, 2, 0, 4), (2, 0, 5, 9)]),
            (2, [(0, 1, 2, 2), (0, 1, 3, 4), (1, 0, 0, 4)]), (120, [(118, 119, 1, 1)]),
            (2, [(1, 0, 0, 1), (0, 1, 2, 2)]),
            (4, [(0, 1, 0, 2), (1, 0, 0, 1), (2, 3, 4, 9), (3, 2, 0, 3)]),
            (3, [(0, 1, 5, 9), (1, 0, 0, 2), (1, 2, 0, 3), (2, 0, 1, 2)]),
        ]:
            self.cut(many, arcs)

    def test_an_arc_whose_least_is_its_most(self):
        self.assertEqual(self.flow(3, [(0, 1, 3, 3), (1, 2, 0, 9), (2, 0, 0, 9)]), [3, 3, 3])
        self.assertEqual(self.flow(2, [(0, 1, 0, 0), (1, 0, 0, 7)]), [0, 0])
        self.assertEqual(self.cut(2, [(0, 1, 0, 0), (1, 0, 1, 7)]), [0])

    def test_cuts_that_alone_fit(self):
        self.assertEqual(self.cut(2, [(0, 1, 1, 3)]), [1])
        self.assertEqual(self.cut(2, [(1, 0, 1, 3)]), [0])
        self.assertEqual(self.cut(3, [(0, 1, 1, 1), (1, 2, 0, 9)]), [1, 2])
        self.assertEqual(self.cut(3, [(0, 1, 0, 9), (1, 2, 1, 1), (0, 2, 0, 9), (1, 0, 0, 9)]), [2])

    def test_two_arcs_between_the_same_nodes(self):
        self.flow(2, [(0, 1, 1, 2), (0, 1, 1, 2), (1, 0, 4, 9)])
        self.cut(2, [(0, 1, 1, 2), (0, 1, 1, 2), (1, 0, 5, 9)])
        self.flow(2, [(0, 1, 0, 1)] * 150 + [(1, 0, 1, 1)] * 150)
        self.cut(2, [(0, 1, 0, 1)] * 149 + [(1, 0, 1, 1)] * 150)

    def test_great_numbers(self):
        self.assertEqual(self.flow(2, [(0, 1, GREAT, GREAT), (1, 0, 0, GREAT)]), [GREAT, GREAT])
        self.cut(2, [(0, 1, GREAT, GREAT), (1, 0, 0, GREAT - 1)])
        # Whoever goes through the arc of 1 by turns forth and back takes ones alone.
        ladder = [(0, 1, 0, GREAT), (0, 2, 0, GREAT), (1, 2, 0, 1), (1, 3, 0, GREAT), (2, 3, 0, GREAT)]
        self.flow(4, ladder + [(3, 0, 2 * GREAT, 2 * GREAT)])
        self.cut(4, ladder + [(3, 0, 2 * GREAT + 1, 2 * GREAT + 1)])

    def test_120_nodes_in_a_ring(self):
        ring = [(at, (at + 1) % 120, 0 if at else 5, 9 - at % 5) for at in range(120)]
        self.assertEqual(self.flow(120, ring), [5] * 120)
        ring[77] = (77, 78, 0, 4)
        self.cut(120, ring)

    def test_120_nodes_and_300_arcs(self):
        chance = random.Random(17)
        told = []
        for turn in range(12):
            arcs = [(*chance.sample(range(120), 2), 0, chance.randrange(GREAT)) for arc in range(180)]
            arcs += [(at, (at + 1) % 120, 10 ** (turn + 48), GREAT) for at in range(120)]
            chance.shuffle(arcs)
            if turn % 2:
                arcs = [(*arc[:2], min(arc[3], chance.randrange(GREAT)), arc[3]) for arc in arcs]
            told.append(flow_of(120, arcs)[0])
            self.flow(120, arcs) if told[-1] == "flow" else self.cut(120, arcs)
        self.assertEqual(set(told), {"flow", "cut"})

    def test_beside_all_flows_that_are(self):
        chance = random.Random(18)
        seen = []
        for turn in range(400):
            many, arcs = random_net(chance, 5, 6, 3)
            right = "flow" if all_flows(many, arcs) else "cut"
            self.flow(many, arcs) if right == "flow" else self.cut(many, arcs)
            seen.append(right)
        self.assertTrue(min(seen.count("flow"), seen.count("cut")) > 50)

    def test_what_is_no_net(self):
        for many, arcs in NO_NETS:
            refused(self, NoNet, flow_of, many, arcs)


class OnAnArc(Told):
    def test_ring(self):
        for flow in ([2, 2, 2], [3, 3, 3], [4, 4, 4]):
            for at in range(3):
                self.assertEqual(self.both(3, RING, flow, at), (2, 4))

    def test_at_the_arc_s_own_bounds(self):
        pair = [(0, 1, 1, 3), (1, 0, 0, 9)]
        for number in (1, 2, 3):
            self.assertEqual(self.both(2, pair, [number, number], 0), (1, 3))
            self.assertEqual(greatest_on(2, pair, [number, number], 0), (3, [3, 3], []))
            self.assertEqual(least_on(2, pair, [number, number], 0), (1, [1, 1], []))

    def test_nodes_that_bear_it_out(self):
        pair = [(0, 1, 1, 3), (1, 0, 0, 9)]
        for number in (1, 2, 3):
            self.assertEqual(greatest_on(2, pair, [number, number], 1), (3, [3, 3], [0]))
            self.assertEqual(least_on(2, pair, [number, number], 1), (1, [1, 1], [1]))

    def test_bounds_of_the_arc_and_of_the_others_alike(self):
        pair = [(0, 1, 1, 3), (1, 0, 1, 3)]
        for at in (0, 1):
            self.assertEqual(greatest_on(2, pair, [2, 2], at), (3, [3, 3], []))
            self.assertEqual(least_on(2, pair, [2, 2], at), (1, [1, 1], []))

    def test_an_arc_that_leads_nowhere(self):
        self.assertEqual(greatest_on(2, [(0, 1, 0, 5)], [0], 0), (0, [0], [1]))
        self.assertEqual(least_on(2, [(0, 1, 0, 5)], [0], 0), (0, [0], []))

    def test_an_arc_whose_least_is_its_most(self):
        arcs = [(0, 1, 3, 3), (1, 0, 0, 9)]
        for at in (0, 1):
            self.assertEqual(self.both(2, arcs, [3, 3], at), (3, 3))
        self.assertEqual(greatest_on(2, arcs, [3, 3], 0)[2], [])
        self.assertEqual(least_on(2, arcs, [3, 3], 0)[2], [])
        self.assertNotEqual(greatest_on(2, arcs, [3, 3], 1)[2], [])

    def test_two_arcs_between_the_same_nodes(self):
        arcs = [(0, 1, 0, 4), (0, 1, 1, 2), (1, 0, 2, 5)]
        for flow in all_flows(2, arcs):
            self.assertEqual([self.both(2, arcs, flow, at) for at in range(3)], [(0, 4), (1, 2), (2, 5)])
        arcs = [(0, 1, 0, 4), (0, 1, 1, 2), (1, 0, 4, 4)]
        for flow in all_flows(2, arcs):
            self.assertEqual([self.both(2, arcs, flow, at) for at in range(3)], [(2, 3), (1, 2), (4, 4)])

    def test_two_arcs_one_against_the_other(self):
        arcs = [(0, 1, 0, 7), (1, 0, 0, 7), (1, 2, 0, 3), (2, 0, 1, 3)]
        for flow in ([1, 0, 1, 1], [7, 6, 1, 1], [7, 4, 3, 3]):
            self.assertEqual([self.both(3, arcs, flow, at) for at in range(4)], [(1, 7), (0, 6), (1, 3), (1, 3)])

    def test_great_numbers(self):
        ladder = [(0, 1, 0, GREAT), (0, 2, 0, GREAT), (1, 2, 0, 1), (1, 3, 0, GREAT), (2, 3, 0, GREAT)]
        arcs = ladder + [(3, 0, 0, 10 ** 61)]
        told = [self.both(4, arcs, [0] * 6, at) for at in range(6)]
        self.assertEqual(told, [(0, GREAT), (0, GREAT), (0, 1), (0, GREAT), (0, GREAT), (0, 2 * GREAT)])
        full = greatest_on(4, arcs, [0] * 6, 5)[1]
        self.assertEqual([self.both(4, arcs, full, at) for at in range(6)], told)

    def test_beside_all_flows_that_are(self):
        chance = random.Random(19)
        seen = []
        for turn in range(300):
            many, arcs = random_net(chance, 4, 7, 3)
            told = all_flows(many, arcs)
            for at in range(len(arcs) if told else 0):
                numbers = [flow[at] for flow in told]
                least, greatest = self.both(many, arcs, chance.choice(told), at)
                self.assertEqual((least, greatest), (min(numbers), max(numbers)))
                seen.append((least == arcs[at][2], greatest == arcs[at][3], least == greatest))
        self.assertEqual(len(set(seen)), 8)

    def test_120_nodes_and_300_arcs(self):
        chance = random.Random(20)
        arcs = [(*chance.sample(range(120), 2), 0, chance.randrange(GREAT)) for arc in range(180)]
        arcs += [(at, (at + 1) % 120, 10 ** 50, GREAT) for at in range(120)]
        flow = self.flow(120, arcs)
        for at in range(0, 300, 23):
            bounds = self.both(120, arcs, flow, at)
            self.assertEqual(self.both(120, arcs, greatest_on(120, arcs, flow, at)[1], at), bounds)
            self.assertEqual(self.both(120, arcs, least_on(120, arcs, flow, at)[1], at), bounds)

    def test_what_is_no_net(self):
        for many, arcs in NO_NETS:
            for deed in (greatest_on, least_on):
                refused(self, NoNet, deed, many, arcs, [0] * len(arcs), 0)

    def test_what_is_no_flow(self):
        wrong = [[], [2], [2, 2], [2, 2, 2, 2], [2, 2, 3], [1, 1, 1], [5, 5, 5], [-1, -1, -1], [3, 2, 2], [GREAT] * 3]
        for deed in (greatest_on, least_on):
            for flow in wrong:
                for at in range(3):
                    refused(self, NoNet, deed, 3, RING, flow, at)
            refused(self, NoNet, deed, 2, [(0, 1, 0, 1)], [1], 0)


class Unchanged(unittest.TestCase):
    def test_what_is_handed_in(self):
        arcs = list(RING)
        flow = [3, 3, 3]
        flow_of(3, arcs)
        flow_of(2, [(0, 1, 1, 1)])
        for at in range(3):
            greatest_on(3, arcs, flow, at)
            least_on(3, arcs, flow, at)
        refused(self, NoNet, flow_of, 2, arcs)
        refused(self, NoNet, greatest_on, 3, arcs, [3, 3, 4], 0)
        refused(self, NoNet, least_on, 3, arcs, [3, 3, 4], 0)
        self.assertEqual((arcs, flow), (RING, [3, 3, 3]))

    def test_lists_that_were_told(self):
        asked = [
            lambda: flow_of(3, RING)[1:], lambda: flow_of(1, [])[1:], lambda: flow_of(2, [(0, 1, 1, 1)])[1:],
            lambda: greatest_on(3, RING, [4, 4, 4], 0)[1:], lambda: least_on(3, RING, [2, 2, 2], 0)[1:],
            lambda: greatest_on(3, RING, [2, 2, 2], 1)[1:], lambda: least_on(3, RING, [3, 3, 3], 2)[1:],
        ]
        told = [repr(ask()) for ask in asked]
        for ask in asked:
            for answer in ask():
                answer.append(99)
            self.assertEqual([repr(again()) for again in asked], told)

    def test_a_flow_that_is_told_again_is_another_list(self):
        for deed, number in ((greatest_on, 4), (least_on, 2)):
            flow = [number] * 3
            told = deed(3, RING, flow, 0)
            self.assertEqual(told[1], flow)
            told[1].clear()
            self.assertEqual(flow, [number] * 3)


class Interface(unittest.TestCase):
    def test_arguments(self):
        told = {
            "flow_of": ["many", "arcs"], "greatest_on": ["many", "arcs", "flow", "at"],
            "least_on": ["many", "arcs", "flow", "at"],
        }
        for name, arguments in told.items():
            self.assertEqual(list(inspect.signature(getattr(flows, name)).parameters), arguments)


if __name__ == "__main__":
    unittest.main()
