"""Flows through a net of pipes, tuples (start, end), each with room for an integer."""

from collections import deque


def filled(rooms, source, sink):
    """The rooms that are left, those for flowing back included, once nothing more can flow to the sink."""
    left = {pipe: rooms[pipe] for pipe in rooms}
    for start, end in rooms:
        left.setdefault((end, start), 0)
    # Shortest ways first: so their number depends on that of the pipes alone, not on the rooms.
    way = way_to(left, source, sink)
    while len(way) > 0:
        many = min([left[pipe] for pipe in way])
        for start, end in way:
            left[(start, end)] -= many
            left[(end, start)] += many
        way = way_to(left, source, sink)
    return left


def way_to(left, source, sink):
    """The pipes of a shortest way with room from the source to the sink, or none."""
    before = reached(left, source)
    way = []
    end = sink
    while end in before and end != source:
        way.append((before[end], end))
        end = before[end]
    return way


def reached(left, source):
    """The nodes that something can still flow to from the source, each with the node before it."""
    before = {source: source}
    waiting = deque([source])
    while len(waiting) > 0:
        node = waiting.popleft()
        for start, end in left:
            if start == node and end not in before and left[(start, end)] > 0:
                before[end] = node
                waiting.append(end)
    return before
