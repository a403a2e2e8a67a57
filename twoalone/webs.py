"""Webs: how the outputs let for a pair of inputs hang together, and ways through them."""

from twoalone.checks import is_whole_within
from twoalone.errors import NoInputs, NoRounds
from twoalone.tasks import is_pair

MOST_TIES = 999


def ties_of(let):
    """Tell each point of the web, with the points that are tied to it."""
    ties = {}
    for x, y in let:
        ties.setdefault((0, x), []).append((1, y))
        ties.setdefault((1, y), []).append((0, x))
    return ties


def distances(ties, start):
    """Tell how many ties away from start each point is that hangs together with it, nearest first."""
    away = {start: 0} if start in ties else {}
    newest = list(away)
    while newest:
        found = []
        for point in newest:
            for tied in ties[point]:
                if tied not in away:
                    away[tied] = away[point] + 1
                    found.append(tied)
        newest = found
    return away


def ties_for(task, pair):
    """Tell the web of this pair of inputs."""
    if not is_pair(task, pair):
        raise NoInputs("this is no pair of inputs of the task")
    return ties_of(task.both[pair])


def lots(task, pair):
    """Tell the points of the pair's web, in lots that hang together."""
    ties = ties_for(task, pair)
    told = []
    found = set()
    for point in sorted(ties):
        if point not in found:
            lot = sorted(distances(ties, point))
            told.append(lot)
            for other in lot:
                found.add(other)
    return told


def far(task, pair, x, y):
    """Tell the fewest ties from hand 0's output x to hand 1's y, None where there is no way."""
    return distances(ties_for(task, pair), (0, x)).get((1, y))


def shortest(ties, away, start):
    """Tell the outputs on a way from start down to the point that all are so far away from."""
    point = start
    outputs = [point[1]]
    while away[point] > 0:
        point = [tied for tied in ties[point] if away[tied] < away[point]][0]
        outputs.append(point[1])
    return outputs


def walk(task, pair, x, y, *, many=None):
    """Tell the outputs on a way from hand 0's output x to hand 1's y by so many ties, or as few as can be."""
    ties = ties_for(task, pair)
    if many is not None and not is_whole_within(many, 1, MOST_TIES):
        raise NoRounds("a number of ties is from 1 to 999")
    start = (0, x)
    away = distances(ties, (1, y))
    if start not in away:
        return None
    spare = 0 if many is None else many - away[start]
    # To and fro takes two ties, so only an even number of them can be spent.
    if spare < 0 or spare % 2 == 1:
        return None
    outputs = shortest(ties, away, start)
    return outputs[:2] * (spare // 2) + outputs
