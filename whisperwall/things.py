"""Things: what is a program, a house or a store, and the names of a program."""

NUMBERS = 997
LEVELS = 3
LETTERS = "abcdefghijklmnopqrstuvwxyz"
LONGEST_NAME = 3
PAIRING = ("sum", "times", "less")


def is_program(thing):
    return is_block(thing)


def is_house(thing):
    return has_rising_names(thing) and all([is_level(pair[1]) for pair in thing])


def is_store(thing):
    return has_rising_names(thing) and all([is_number(pair[1]) for pair in thing])


def names_of(program):
    found = {}
    waiting = list(program)
    while waiting:
        part = waiting.pop()
        if part[0] in ("name", "put"):
            found[part[1]] = True
        waiting.extend(parts_of(part))
    return tuple(sorted(found))


# The walk of names_of takes a term as it takes a deed.
def names_in_term(term):
    return names_of((term,))


# Terms and deeds share no first word, so one walk can go through both.
def parts_of(part):
    kind = part[0]
    if kind in ("number", "name"):
        return ()
    if kind in PAIRING:
        return part[1:]
    if kind in ("put", "show"):
        return part[2:]
    if kind == "if":
        return (part[1],) + part[2] + part[3]
    return (part[1],) + part[2]


def is_block(thing):
    return isinstance(thing, tuple) and all([is_deed(part) for part in thing])


def is_deed(thing):
    if not isinstance(thing, tuple) or len(thing) < 3:
        return False
    kind = thing[0]
    if kind == "if":
        return len(thing) == 4 and is_term(thing[1]) and is_block(thing[2]) and is_block(thing[3])
    if len(thing) != 3:
        return False
    if kind == "put":
        return is_name(thing[1]) and is_term(thing[2])
    if kind == "show":
        return is_level(thing[1]) and is_term(thing[2])
    return kind == "while" and is_term(thing[1]) and is_block(thing[2])


def is_term(thing):
    if not isinstance(thing, tuple):
        return False
    if len(thing) == 3:
        return thing[0] in PAIRING and is_term(thing[1]) and is_term(thing[2])
    if len(thing) != 2:
        return False
    if thing[0] == "number":
        return is_number(thing[1])
    return thing[0] == "name" and is_name(thing[1])


def has_rising_names(thing):
    if not isinstance(thing, tuple) or not all([is_named(pair) for pair in thing]):
        return False
    names = [pair[0] for pair in thing]
    return names == sorted(set(names))


def is_named(thing):
    return isinstance(thing, tuple) and len(thing) == 2 and is_name(thing[0])


def is_name(thing):
    if not isinstance(thing, str) or not 1 <= len(thing) <= LONGEST_NAME:
        return False
    return all([sign in LETTERS for sign in thing])


def is_number(thing):
    return is_whole(thing) and 0 <= thing < NUMBERS


def is_level(thing):
    return is_whole(thing) and 0 <= thing < LEVELS


# Python counts truths among the ints; the document does not.
def is_whole(thing):
    return isinstance(thing, int) and not isinstance(thing, bool)
