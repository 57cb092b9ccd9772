"""Runs: the number of a term, and what a program leaves and shows."""

from whisperwall.things import LEVELS, NUMBERS


def value(term, store):
    return number_of(term, dict(store))


def run(program, store, most):
    standing = dict(store)
    shown = []
    turns = do_deeds(program, standing, shown, most)
    pages = tuple([page_of(shown, level) for level in range(LEVELS)])
    return (turns, store_of(standing), pages)


def number_of(term, standing):
    kind = term[0]
    if kind == "number":
        return term[1]
    if kind == "name":
        return standing.get(term[1], 0)
    first = number_of(term[1], standing)
    second = number_of(term[2], standing)
    if kind == "sum":
        return (first + second) % NUMBERS
    if kind == "times":
        return (first * second) % NUMBERS
    return 1 if first < second else 0


# The deeds still to be done wait in a list, the next one last, so that a stop
# within many blocks is a plain return.
def do_deeds(program, standing, shown, most):
    turns = 0
    waiting = list(reversed(program))
    while waiting:
        deed = waiting.pop()
        kind = deed[0]
        if kind == "put":
            standing[deed[1]] = number_of(deed[2], standing)
        elif kind == "show":
            shown.append((deed[1], number_of(deed[2], standing)))
        elif kind == "if":
            block = deed[2] if number_of(deed[1], standing) != 0 else deed[3]
            waiting.extend(list(reversed(block)))
        elif number_of(deed[1], standing) != 0:
            if turns >= most:
                return None
            turns = turns + 1
            # The while waits behind its own block, to be asked again.
            waiting.append(deed)
            waiting.extend(list(reversed(deed[2])))
    return turns


def page_of(shown, level):
    return tuple([number for page, number in shown if page == level])


def store_of(standing):
    return tuple([(name, standing[name]) for name in sorted(standing) if standing[name] != 0])
