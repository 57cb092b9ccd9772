"""What the document promises over the whole program, for many programs, houses, stores and levels."""

import functools
import itertools
import unittest

from small_programs import (
    A, B, NAMES, ONE, ZERO, Maker, add, cases, count_down, is_plain, less, names_within, number, put, show, times,
    tiny_houses, tiny_programs,
)
from whisperwall.cutting import cut
from whisperwall.flowing import flows, lets, seen
from whisperwall.running import run, value
from whisperwall.settling import settled
from whisperwall.things import is_house, is_program, is_store, names_of

MOSTS = (0, 1, 2, 5, 30)
VALUES = (0, 1, 2, 3, 996)


def let_program(maker, house):
    """A program that a house lets, of deeds of chance that it lets one by one."""
    deeds = []
    for count in range(40):
        deed = maker.deed(maker.random.randrange(3))
        if lets((deed,), house):
            deeds.append(deed)
        if len(deeds) == 5:
            break
    return tuple(deeds)


def let_cases(count, seed):
    """As many (program, house, store, most) as are asked for, in which the house lets the program."""
    maker = Maker(seed)
    for step in range(count):
        house = maker.house()
        program = let_program(maker, house)
        if step % 4 == 0:
            program = maker.block(2)
            told = settled(program, house)
            if told[0] == "trail":
                continue
            house = told[1]
        yield (program, house, maker.store(), maker.random.choice(MOSTS))


def changed_above(maker, store, house, level):
    """A store like another one up to a level, with other numbers above it."""
    levels = dict(house)
    changed = dict(store)
    for name in NAMES:
        if levels.get(name, 0) > level:
            changed[name] = maker.random.choice(VALUES)
        elif name not in changed and maker.random.randrange(2):
            # A nought and no pair are the same.
            changed[name] = 0
    return tuple(sorted(changed.items()))


def view(told, house, level):
    """What is seen of a run up to a level."""
    turns, left, pages = told
    return (turns, seen(left, house, level), pages[:level + 1])


class TestAlike(unittest.TestCase):
    """0.2 (a): if nothing flows down, two runs that begin alike up to a level are alike up to it."""

    def test_programs_of_chance(self):
        maker = Maker(50)
        ended, stopped, differing, shown = 0, 0, 0, 0
        for program, house, store, most in let_cases(3000, 51):
            self.assertIs(lets(program, house), True)
            for level in (0, 1, 2):
                other = changed_above(maker, store, house, level)
                first, second = run(program, store, most), run(program, other, most)
                about = (program, house, store, other, level, most)
                self.assertEqual(view(first, house, level), view(second, house, level), about)
                ended, stopped = ended + (first[0] is not None), stopped + (first[0] is None)
                differing, shown = differing + (first[1] != second[1]), shown + (first[2] != second[2])
        for count in (ended, stopped, differing, shown):
            self.assertGreater(count, 300)

    def test_all_tiny_programs(self):
        stores = [(("a", first), ("b", second)) for first in (0, 1, 2) for second in (0, 1, 2)]
        together = 0
        for program in tiny_programs():
            runs = {(store, most): run(program, store, most) for store in stores for most in (0, 1, 3)}
            for house in tiny_houses():
                if not lets(program, house):
                    continue
                for level in (0, 1):
                    views = {}
                    for (store, most), told in runs.items():
                        expected = views.setdefault((seen(store, house, level), most), view(told, house, level))
                        self.assertEqual(view(told, house, level), expected, (program, house, store, level, most))
                    together += len(runs) - len(views)
        self.assertGreater(together, 100000)

    def test_a_secret_that_decides(self):
        # A secret chooses, is put and shown, beside a while that goes by what is open.
        house = (("b", 1), ("c", 2), ("d", 2))
        program = (
            ("if", ("name", "c"), (put("d", number(7)), show(2, ("name", "c"))), (put("d", B),)),
            ("while", A, (show(0, A), show(1, B), ("if", less(B, A), (put("b", A),), ()), count_down("a"))),
            show(2, ("name", "d")),
        )
        self.assertIs(lets(program, house), True)
        for most in (0, 2, 3, 9):
            for private, secret in itertools.product((0, 1, 5), (0, 1, 5)):
                told = run(program, (("a", 3), ("b", private), ("c", secret)), most)
                low = run(program, (("a", 3),), most)
                self.assertEqual(view(told, house, 0), view(low, house, 0))
                self.assertEqual(view(told, house, 1), view(run(program, (("a", 3), ("b", private)), most), house, 1))

    def test_each_way_down_would_be_seen(self):
        # Each of these tells of a to those who see page 0 and the names of level 0, and is not let.
        ways = (
            put("b", A), show(0, A), show(0, add(times(A, ONE), ZERO)),
            ("while", A, ()), ("while", A, (put("a", ZERO),)),
            ("if", A, (put("b", ONE),), ()), ("if", A, (), (show(0, ONE),)), ("if", A, (("while", ONE, ()),), ()),
            ("if", ONE, (("if", A, (put("b", ONE),), ()),), ()),
            ("if", A, (), (("if", ONE, (show(0, ONE),), ()),)),
            ("if", A, (("while", less(B, ONE), (put("b", ONE),)),), ()),
        )
        for deed in ways:
            for house in ((("a", 1),), (("a", 2),), (("a", 2), ("b", 0))):
                views = [view(run((deed,), (("a", n),), 3), house, 0) for n in (0, 1)]
                self.assertNotEqual(views[0], views[1], deed)
                self.assertIs(lets((deed,), house), False, deed)
                self.assertEqual(settled((deed,), (("a", 1), ("b", 0)))[0], "trail", deed)


class TestCutOut(unittest.TestCase):
    """0.2 (b): then all that has to do with higher levels can be cut out."""

    def check(self, program, house, store, level, most, runs=run):
        less_of_it = cut(program, house, level)
        about = (program, house, store, level, most, less_of_it)
        told, short = runs(program, store, most), runs(less_of_it, store, most)
        self.assertEqual(view(short, house, level), view(told, house, level), about)
        self.assertEqual(short[2][level + 1:], ((), (), ())[level + 1:], about)
        # The low part neither asks for what is above nor changes it.
        below = seen(store, house, level)
        self.assertEqual(view(runs(less_of_it, below, most), house, level), view(told, house, level), about)
        above = {pair for pair in store if pair not in below and pair[1]}
        self.assertEqual(set(short[1]) - set(seen(short[1], house, level)), above, about)
        return less_of_it != program

    def test_programs_of_chance(self):
        changed = 0
        for program, house, store, most in let_cases(3000, 52):
            for level in (0, 1, 2):
                changed += self.check(program, house, store, level, most)
        self.assertGreater(changed, 1000)

    def test_all_tiny_programs(self):
        runs = functools.cache(run)
        changed = 0
        for program in tiny_programs():
            for house in tiny_houses():
                if lets(program, house):
                    for level, numbers, most in itertools.product((0, 1), ((0, 1), (2, 0)), (0, 2)):
                        store = tuple(zip(("a", "b"), numbers, strict=True))
                        changed += self.check(program, house, store, level, most, runs)
        self.assertGreater(changed, 10000)

    def test_what_is_cut_out_is_let_too(self):
        for program, house, store, most in let_cases(500, 53):
            for level in (0, 1, 2):
                short = cut(program, house, level)
                self.assertIs(lets(short, house), True)
                levels = dict(house)
                self.assertTrue(all(levels.get(name, 0) <= level for name in names_within(short)), (program, short))


class TestMoreTurns(unittest.TestCase):
    """0.2 (d): what more turns and programs behind one another mean for what is seen."""

    def test_views_only_grow(self):
        for program, house, store, most in let_cases(500, 54):
            for level in (0, 1, 2):
                turns, left, pages = view(run(program, store, most), house, level)
                later = view(run(program, store, most + 2), house, level)
                if turns is not None:
                    self.assertEqual(later, (turns, left, pages))
                for page, longer in zip(pages, later[2], strict=True):
                    self.assertEqual(longer[:len(page)], page)

    def test_a_cut_of_two_programs(self):
        maker = Maker(55)
        for step in range(300):
            house = maker.house()
            program, other, store = let_program(maker, house), let_program(maker, house), maker.store()
            for level in (0, 1):
                parts = cut(program, house, level) + cut(other, house, level)
                whole = view(run(program + other, store, 8), house, level)
                self.assertEqual(view(run(parts, store, 8), house, level), whole)


RENAMINGS = (
    {"a": "b", "b": "a", "ab": "zzz", "zzz": "ab"},
    {"a": "zz", "b": "y", "ab": "xxx", "zzz": "aaa"},
    {"a": "put", "b": "if", "ab": "sum", "zzz": "abc"},
    {"a": "ab", "ab": "a", "b": "b", "zzz": "z"},
)


def renamed(thing, names):
    """A program, a term or a flow under other names."""
    if not isinstance(thing, tuple):
        return thing
    if thing[:1] in (("name",), ("put",)):
        return (thing[0], names[thing[1]]) + renamed(thing[2:], names)
    return tuple(renamed(part, names) for part in thing)


def renamed_pairs(pairs, names):
    """A store, a house or flows under other names, rising again."""
    return tuple(sorted((names[name], renamed(other, names)) for name, other in pairs))


class TestOtherNames(unittest.TestCase):
    """0.2 (e): other names change nothing."""

    def each(self, seed):
        maker = Maker(seed + 100)
        for step, (program, other, store, most) in enumerate(cases(300, seed)):
            house = maker.house()
            if step % 2:
                program = let_program(maker, house)
            for names in RENAMINGS:
                yield program, house, store, most, names

    def test_things(self):
        for program, house, store, most, names in self.each(60):
            new = renamed(program, names)
            self.assertIs(is_program(new), True)
            self.assertIs(is_house(renamed_pairs(house, names)), True)
            self.assertIs(is_store(renamed_pairs(store, names)), True)
            self.assertEqual(names_of(new), tuple(sorted(names[name] for name in names_of(program))))

    def test_runs(self):
        maker = Maker(61)
        for program, house, store, most, names in self.each(62):
            turns, left, pages = run(program, store, most)
            told = run(renamed(program, names), renamed_pairs(store, names), most)
            self.assertEqual(told, (turns, renamed_pairs(left, names), pages))
            term = maker.term(3)
            self.assertEqual(value(renamed(term, names), renamed_pairs(store, names)), value(term, store))

    def test_flows(self):
        letting = 0
        for program, house, store, most, names in self.each(63):
            new = renamed(program, names)
            self.assertEqual(flows(new), renamed_pairs(flows(program), names))
            self.assertIs(lets(new, renamed_pairs(house, names)), lets(program, house))
            letting += lets(program, house)
            for level in (0, 1, 2):
                told = seen(renamed_pairs(store, names), renamed_pairs(house, names), level)
                self.assertEqual(told, renamed_pairs(seen(store, house, level), names))
        self.assertGreater(letting, 300)

    def test_levels(self):
        for program, house, store, most, names in self.each(64):
            told = settled(program, house)
            new = settled(renamed(program, names), renamed_pairs(house, names))
            self.assertEqual(new[0], told[0])
            if told[0] == "house":
                self.assertEqual(new[1], renamed_pairs(told[1], names))

    def test_cuts(self):
        for program, house, store, most, names in self.each(65):
            for level in (0, 1, 2):
                new = cut(renamed(program, names), renamed_pairs(house, names), level)
                self.assertEqual(new, renamed(cut(program, house, level), names))

    def test_names_that_the_program_does_not_know(self):
        for program, house, store, most, names in self.each(66):
            more = (("bb", 2), ("q", 1))
            stored, housed = tuple(sorted(store + more)), tuple(sorted(house + more))
            turns, left, pages = run(program, store, most)
            self.assertEqual(run(program, stored, most), (turns, tuple(sorted(left + more)), pages))
            self.assertIs(lets(program, housed), lets(program, house))
            told, further = settled(program, house), settled(program, housed)
            self.assertEqual(further[0], told[0])
            if told[0] == "house":
                self.assertEqual(further[1], tuple(sorted(told[1] + more)))
            for level in (0, 1, 2):
                self.assertEqual(cut(program, housed, level), cut(program, house, level))


class TestKinds(unittest.TestCase):
    """0.3: all things are tuples, texts, whole numbers and None, and nothing is kept between two questions."""

    def answers(self, program, house, store, most):
        told = [flows(program), settled(program, house), run(program, store, most)]
        for level in (0, 1, 2):
            told.append(seen(store, house, level))
            told.append(cut(program, house, level))
        return told

    def test_plain_things_alone(self):
        for program, house, store, most in let_cases(300, 70):
            for told in self.answers(program, house, store, most):
                self.assertTrue(is_plain(told), told)
                self.assertIs(type(told), tuple)

    def test_whatever_was_asked_between(self):
        questions = list(let_cases(200, 71))
        first = [self.answers(*question) for question in questions]
        again = [self.answers(*question) for question in reversed(questions)]
        self.assertEqual(first, again[::-1])


if __name__ == "__main__":
    unittest.main()
