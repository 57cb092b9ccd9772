"""Cuts: a program without all that has to do with higher levels."""

from whisperwall.things import names_in_term


def cut(program, house, level):
    return cut_block(program, dict(house), level)


def cut_block(block, levels, level):
    return tuple([cut_deed(deed, levels, level) for deed in block if stays(deed, levels, level)])


# A while always stays: where nothing flows down, its term is of level 0.
def stays(deed, levels, level):
    kind = deed[0]
    if kind == "put":
        return levels.get(deed[1], 0) <= level
    if kind == "show":
        return deed[1] <= level
    if kind == "if":
        return all([levels.get(name, 0) <= level for name in names_in_term(deed[1])])
    return True


def cut_deed(deed, levels, level):
    kind = deed[0]
    if kind == "if":
        return ("if", deed[1], cut_block(deed[2], levels, level), cut_block(deed[3], levels, level))
    if kind == "while":
        return ("while", deed[1], cut_block(deed[2], levels, level))
    return deed
