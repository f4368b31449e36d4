"""Flows of nets: whether there is one, and the greatest and the least on an arc, each borne out by nodes."""

from crosshall.errors import NoNet
from crosshall.nets import asked_net, gains, holds_flow


class Stream:
    def __init__(self, many, arcs, flow):
        self.arcs = list(arcs)
        self.borne = list(flow)
        self.steps = [[] for node in range(many)]
        for place, arc in enumerate(arcs):
            self.steps[arc[0]].append((place, arc[1], 1))
            self.steps[arc[1]].append((place, arc[0], -1))

    def room(self, place, sign):
        if sign == 1:
            return self.arcs[place][3] - self.borne[place]
        return self.borne[place] - self.arcs[place][2]

    def reach(self, start):
        came = {start: None}
        rim = [start]
        while rim:
            further = []
            for node in rim:
                for place, to, sign in self.steps[node]:
                    if to not in came and self.room(place, sign) > 0:
                        came[to] = (node, place, sign)
                        further.append(to)
            rim = further
        return came

    def way(self, start, goal):
        came = self.reach(start)
        taken = []
        node = goal if goal in came else start
        while node != start:
            taken.append(came[node][1:])
            node = came[node][0]
        return taken

    def push(self, start, goal, limit):
        # Along shortest ways, each with all that goes through: so nodes and arcs bound the pushes, not the numbers.
        pushed = 0
        while pushed < limit:
            way = self.way(start, goal)
            if not way:
                break
            through = min([limit - pushed] + [self.room(place, sign) for place, sign in way])
            for place, sign in way:
                self.borne[place] += sign * through
            pushed += through
        return pushed


def flow_or_cut(many, arcs):
    leasts = [arc[2] for arc in arcs]
    # With each arc at its least a node has too much or too little: the one is drawn from a node more, the other goes
    # to another one, and a flow is there where all of it can go through.
    over = gains(many, arcs, leasts)
    drawn = [(many, node, 0, number) for node, number in enumerate(over) if number > 0]
    given = [(node, many + 1, 0, -number) for node, number in enumerate(over) if number < 0]
    due = sum([arc[3] for arc in drawn])
    stream = Stream(many + 2, arcs + drawn + given, leasts + [0] * len(drawn + given))
    if stream.push(many, many + 1, due) == due:
        return ("flow", stream.borne[:len(arcs)])
    return ("cut", [node for node in sorted(stream.reach(many)) if node < many])


def flow_of(many, arcs):
    asked_net(many, arcs)
    return flow_or_cut(many, arcs)


def asked_flow(many, arcs, flow):
    asked_net(many, arcs)
    if not holds_flow(many, arcs, flow):
        raise NoNet("this is no flow of the net")
    return True


def stream_round(many, arcs, flow, at):
    # The arc itself is held where it is: what it gains or loses goes round through the others.
    held = (arcs[at][0], arcs[at][1], flow[at], flow[at])
    return Stream(many, arcs[:at] + [held] + arcs[at + 1:], flow)


def with_number(flow, at, number):
    return flow[:at] + [number] + flow[at + 1:]


def greatest_on(many, arcs, flow, at):
    asked_flow(many, arcs, flow)
    arc = arcs[at]
    stream = stream_round(many, arcs, flow, at)
    number = flow[at] + stream.push(arc[1], arc[0], arc[3] - flow[at])
    nodes = [] if number == arc[3] else sorted(stream.reach(arc[1]))
    return (number, with_number(stream.borne, at, number), nodes)


def least_on(many, arcs, flow, at):
    asked_flow(many, arcs, flow)
    arc = arcs[at]
    stream = stream_round(many, arcs, flow, at)
    number = flow[at] - stream.push(arc[0], arc[1], flow[at] - arc[2])
    nodes = [] if number == arc[2] else sorted(stream.reach(arc[0]))
    return (number, with_number(stream.borne, at, number), nodes)
