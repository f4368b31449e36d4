"""Nets: nodes and arcs with bounds, and which lists are flows of them."""

from crosshall.errors import NoNet

MOST_NODES = 120
MOST_ARCS = 300


def asked_arc(many, arc):
    if not 0 <= arc[0] < many or not 0 <= arc[1] < many:
        raise NoNet("an arc leads from a node of the net to a node of the net")
    if arc[0] == arc[1]:
        raise NoNet("an arc leads from a node to another one")
    if not 0 <= arc[2] <= arc[3]:
        raise NoNet("an arc's least is from 0 on, and not above its most")
    return True


def asked_net(many, arcs):
    if not 1 <= many <= MOST_NODES:
        raise NoNet("a net has 1 to 120 nodes")
    if len(arcs) > MOST_ARCS:
        raise NoNet("a net has at most 300 arcs")
    return all([asked_arc(many, arc) for arc in arcs])


def gains(many, arcs, flow):
    told = [0] * many
    for arc, number in zip(arcs, flow):
        told[arc[0]] -= number
        told[arc[1]] += number
    return told


def holds_flow(many, arcs, flow):
    if len(flow) != len(arcs):
        return False
    if not all([arc[2] <= number <= arc[3] for arc, number in zip(arcs, flow)]):
        return False
    return gains(many, arcs, flow) == [0] * many
