"""What several tests need: programs and stores by the hundred, and a second way to run them."""

import random

NAMES = ("a", "b", "ab", "zzz")
ZERO = ("number", 0)
ONE = ("number", 1)
A = ("name", "a")
B = ("name", "b")


def put(name, term):
    return ("put", name, term)


def show(level, term):
    return ("show", level, term)


def add(first, second):
    return ("sum", first, second)


def times(first, second):
    return ("times", first, second)


def less(first, second):
    return ("less", first, second)


def number(n):
    return ("number", n)


# 996 is one less than nothing, as sums are rests by 997.
def count_down(name):
    return put(name, add(("name", name), number(996)))


def nested(depth, innermost):
    """A program of ifs and whiles in one another, with a block in the middle."""
    block = innermost
    for step in range(depth):
        if step % 3 == 0:
            block = (("if", ONE, block, ()),)
        elif step % 3 == 1:
            block = (("if", ZERO, (), block),)
        else:
            block = (("while", ONE, block),)
    return block


def deep_term(depth, innermost):
    term = innermost
    for step in range(depth):
        kind = ("sum", "times", "less")[step % 3]
        term = (kind, term, ONE) if step % 2 else (kind, ONE, term)
    return term


class Maker:
    """Makes the same terms, programs and stores each time it begins with the same seed."""

    def __init__(self, seed):
        self.random = random.Random(seed)

    def term(self, depth):
        choice = self.random.randrange(5 if depth > 0 else 2)
        if choice == 0:
            return number(self.random.choice((0, 1, 2, 3, 500, 995, 996)))
        if choice == 1:
            return ("name", self.random.choice(NAMES))
        kind = ("sum", "times", "less")[choice - 2]
        return (kind, self.term(depth - 1), self.term(depth - 1))

    def deed(self, depth):
        choice = self.random.randrange(6 if depth > 0 else 3)
        if choice <= 1:
            return put(self.random.choice(NAMES), self.term(2))
        if choice == 2:
            return show(self.random.randrange(3), self.term(2))
        if choice == 3:
            return ("if", self.term(2), self.block(depth - 1), self.block(depth - 1))
        if choice == 4:
            return ("while", self.term(2), self.block(depth - 1))
        # Most whiles of chance never end; this one mostly does.
        name = self.random.choice(NAMES)
        return ("while", ("name", name), self.block(depth - 1) + (count_down(name),))

    def block(self, depth):
        return tuple(self.deed(depth) for count in range(self.random.randrange(4)))

    def store(self):
        chosen = [name for name in sorted(NAMES) if self.random.randrange(3)]
        return tuple((name, self.random.choice((0, 1, 2, 3, 996))) for name in chosen)

    def house(self):
        chosen = [name for name in sorted(NAMES) if self.random.randrange(3)]
        return tuple((name, self.random.randrange(3)) for name in chosen)


def cases(count, seed):
    """As many (program, program, store, most) as are asked for."""
    maker = Maker(seed)
    for step in range(count):
        yield (maker.block(3), maker.block(3), maker.store(), maker.random.choice((0, 1, 2, 3, 5, 8, 30)))


def names_within(thing):
    """The names in a term or a program, each as often as it stands there."""
    if isinstance(thing, tuple):
        if thing[:1] in (("name",), ("put",)):
            yield thing[1]
        for part in thing:
            yield from names_within(part)


def plain_flows(block, choosing=frozenset()):
    """The set of the flows of a program, written apart from the package."""
    found = set()
    for kind, *rest in block:
        if kind == "if":
            within = choosing | set(names_within(rest[0]))
            found |= plain_flows(rest[1], within) | plain_flows(rest[2], within)
            continue
        term = rest[0] if kind == "while" else rest[1]
        target = {"put": ("name", rest[0]), "show": ("page", rest[0]), "while": ("page", 0)}[kind]
        found |= {(name, target) for name in choosing | set(names_within(term))}
        if kind == "while":
            found |= plain_flows(rest[1], choosing)
    return found


def plain_lets(program, house):
    levels = {("name", name): level for name, level in house} | {("page", page): page for page in (0, 1, 2)}
    return not [1 for name, target in plain_flows(program) if levels.get(("name", name), 0) > levels.get(target, 0)]


def tiny_programs():
    """All programs of one deed over two names, with at most one deed in each block, and some with a block within."""
    terms = (ZERO, ONE, A, B)
    deeds = [put(name, term) for name in ("a", "b") for term in terms]
    deeds += [show(level, term) for level in (0, 1, 2) for term in terms]
    blocks = [()] + [(deed,) for deed in deeds]
    yield from blocks
    for term in terms:
        for block in blocks:
            yield (("while", term, block),)
            yield (("while", term, (("if", A, block, ()), count_down("a"))),)
            yield (("if", term, (), (("while", B, block),)),)
            for other in blocks + [(("while", term, ()),) for term in terms]:
                yield (("if", term, block, other),)


def tiny_houses():
    """All houses over two names."""
    for first in (None, 0, 1, 2):
        for second in (None, 0, 1, 2):
            yield tuple(pair for pair in (("a", first), ("b", second)) if pair[1] is not None)


class Stopped(Exception):
    pass


class PlainRun:
    """The run of a program by recursion, written apart from the package."""

    def __init__(self, store, most):
        self.most = most
        self.turns = 0
        self.standing = {name: number for name, number in store}
        self.pages = ([], [], [])

    def value(self, term):
        kind, *rest = term
        if kind == "number":
            return rest[0]
        if kind == "name":
            return self.standing.get(rest[0], 0)
        first, second = [self.value(part) for part in rest]
        return {"sum": (first + second) % 997, "times": first * second % 997, "less": int(first < second)}[kind]

    def block(self, block):
        for kind, *rest in block:
            if kind == "put":
                self.standing[rest[0]] = self.value(rest[1])
            elif kind == "show":
                self.pages[rest[0]].append(self.value(rest[1]))
            elif kind == "if":
                self.block(rest[1] if self.value(rest[0]) else rest[2])
            else:
                while self.value(rest[0]):
                    if self.turns == self.most:
                        raise Stopped()
                    self.turns += 1
                    self.block(rest[1])


def plain_run(program, store, most):
    plain = PlainRun(store, most)
    try:
        plain.block(program)
        turns = plain.turns
    except Stopped:
        turns = None
    left = tuple(sorted((name, n) for name, n in plain.standing.items() if n))
    return (turns, left, tuple(tuple(page) for page in plain.pages))


def rebuilt(thing):
    """An equal thing of which no tuple and no longer text is the same object."""
    if isinstance(thing, tuple):
        return tuple([rebuilt(part) for part in thing])
    if isinstance(thing, str):
        return "".join(list(thing))
    return thing


def is_plain(thing):
    """Whether a thing is of tuples, texts, whole numbers and None alone."""
    if type(thing) is tuple:
        return all(is_plain(part) for part in thing)
    return thing is None or type(thing) in (str, int)
