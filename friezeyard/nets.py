"""The net of a cutting, a net overturned at a point, and a net renamed [22, 23]."""

from friezeyard.rooms import triangles


def net_of(cut):
    net = []
    for a, b, c in triangles(cut):
        net.extend([((a, b), (b, c), 1), ((b, c), (a, c), 1), ((a, c), (a, b), 1)])
    return sorted(net)


def overturned(net, point):
    flow = {}
    for start, end, many in net:
        if point == start or point == end:
            add_arrow(flow, end, start, many)
        else:
            add_arrow(flow, start, end, many)
    for x, u in [(start, many) for start, end, many in net if end == point]:
        for y, v in [(end, many) for start, end, many in net if start == point]:
            add_arrow(flow, x, y, u * v)
    return net_from(flow)


# Both ways between two points are kept as one number, below nought where the second way is the
# greater: so what goes there and back takes itself away.
def add_arrow(flow, start, end, many):
    if start < end:
        flow[(start, end)] = flow.get((start, end), 0) + many
    else:
        flow[(end, start)] = flow.get((end, start), 0) - many


def net_from(flow):
    there = [(ends[0], ends[1], many) for ends, many in flow.items() if many > 0]
    back = [(ends[1], ends[0], -many) for ends, many in flow.items() if many < 0]
    return sorted(there + back)


def renamed(net, old, new):
    return sorted([(called(start, old, new), called(end, old, new), many) for start, end, many in net])


def called(point, old, new):
    return new if point == old else point
