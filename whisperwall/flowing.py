"""Flows: what flows where in a program, whether anything flows down, and what is seen."""

from whisperwall.things import names_in_term


def flows(program):
    found = {}
    gather_flows(program, (), found)
    return tuple(sorted(found))


def lets(program, house):
    levels = dict(house)
    return all([levels.get(name, 0) <= level_of(target, levels) for name, target in flows(program)])


def seen(store, house, level):
    levels = dict(house)
    return tuple([pair for pair in store if levels.get(pair[0], 0) <= level])


# The names by which the ifs round a block choose go along into it, as whatever
# is done there tells of them.
def gather_flows(block, choosing, found):
    for deed in block:
        kind = deed[0]
        if kind == "if":
            within = choosing + names_in_term(deed[1])
            gather_flows(deed[2], within, found)
            gather_flows(deed[3], within, found)
        elif kind == "while":
            # Whether a run ends is seen by everybody, so a while is held to
            # the lowest page, and its names need not go along into its block.
            add_flows(choosing + names_in_term(deed[1]), ("page", 0), found)
            gather_flows(deed[2], choosing, found)
        elif kind == "put":
            add_flows(choosing + names_in_term(deed[2]), ("name", deed[1]), found)
        else:
            add_flows(choosing + names_in_term(deed[2]), ("page", deed[1]), found)


def add_flows(names, target, found):
    for name in names:
        found[(name, target)] = True


def level_of(target, levels):
    if target[0] == "page":
        return target[1]
    return levels.get(target[1], 0)
