"""Levels: the least ones by which nothing flows down, or a trail that goes down."""

from whisperwall.flowing import flows
from whisperwall.things import names_of


def settled(program, house):
    told = dict(house)
    onward = targets_by_name(flows(program))
    levels = dict([(name, 0) for name in names_of(program)])
    levels.update(told)
    for level in sorted(set([own for name, own in house])):
        starts = [name for name, own in house if own == level]
        came_from = names_reached(starts, onward, told)
        trail = trail_down(level, came_from, onward, told)
        if trail is not None:
            return trail
        for name in came_from:
            levels[name] = max(level, levels[name])
    return ("house", tuple(sorted(levels.items())))


def targets_by_name(pairs):
    onward = {}
    for name, target in pairs:
        if name not in onward:
            onward[name] = []
        onward[name].append(target)
    return onward


# Each name that is reached stands with the one from which it was reached first.
# No way leads on through a told name: it has its own level, whatever comes to
# it, and begins ways of its own.
def names_reached(starts, onward, told):
    came_from = dict([(name, None) for name in starts])
    waiting = list(starts)
    while waiting:
        name = waiting.pop(0)
        for kind, other in onward.get(name, []):
            if kind == "name" and other not in told and other not in came_from:
                came_from[other] = name
                waiting.append(other)
    return came_from


def trail_down(level, came_from, onward, told):
    for name in came_from:
        for target in onward.get(name, []):
            if is_below(target, level, told):
                return ("trail", way_to(name, came_from), target)
    return None


# A name that is not told takes any level, so it is never below.
def is_below(target, level, told):
    if target[0] == "page":
        return target[1] < level
    return told.get(target[1], level) < level


def way_to(name, came_from):
    names = []
    step = name
    while step is not None:
        names.append(step)
        step = came_from[step]
    return tuple(reversed(names))
