import itertools
import unittest

from small_programs import (
    A, B, ONE, ZERO, Maker, add, is_plain, less, names_within, nested, plain_flows, plain_lets, put, rebuilt, show,
    times, tiny_houses, tiny_programs,
)
from whisperwall.flowing import lets
from whisperwall.settling import settled
from whisperwall.things import is_house

C, D, E = ("name", "c"), ("name", "d"), ("name", "e")
CHAIN = (put("b", A), put("c", B), put("d", C))


def whole_houses(program, house):
    """All houses with the pairs of a house and a pair for each other name of a program."""
    others = sorted(set(names_within(program)) - set(dict(house)))
    for levels in itertools.product((0, 1, 2), repeat=len(others)):
        yield tuple(sorted(house + tuple(zip(others, levels, strict=True))))


def least_house(program, house):
    """The least of the houses that let a program, by asking all of them; None where there is none."""
    letting = [whole for whole in whole_houses(program, house) if plain_lets(program, whole)]
    if not letting:
        return None
    return tuple((column[0][0], min(level for name, level in column)) for column in zip(*letting, strict=True))


class TestCase(unittest.TestCase):
    def check(self, program, house):
        """Holds an answer to all of 4.1, and gives its first word back."""
        told = settled(program, house)
        about = (program, house, told)
        self.assertTrue(is_plain(told), about)
        expected = least_house(program, house)
        if expected is None:
            self.check_trail(told, program, house)
        else:
            self.assertEqual(told, ("house", expected), about)
            self.assertTrue(is_house(told[1]), about)
            self.assertIs(lets(program, told[1]), True, about)
            self.assertEqual([pair for pair in house if pair not in told[1]], [], about)
            self.assertEqual({name for name, level in told[1]}, set(names_within(program)) | set(dict(house)), about)
        return told[0]

    def check_trail(self, told, program, house):
        about = (program, house, told)
        self.assertEqual((len(told), told[0]), (3, "trail"), about)
        word, names, target = told
        levels = dict(house)
        self.assertGreater(len(names), 0, about)
        self.assertIn(names[0], levels, about)
        steps = [("name", name) for name in names[1:]] + [target]
        for flow in zip(names, steps, strict=True):
            self.assertIn(flow, plain_flows(program), about)
        kind, where = target
        self.assertIn(kind, ("name", "page"), about)
        level = where if kind == "page" else levels[where]
        self.assertLess(level, levels[names[0]], about)
        return names

    def house(self, program, house, expected):
        self.assertEqual(settled(program, house), ("house", expected))
        self.assertEqual(self.check(program, house), "house")

    def trail(self, program, house, names, target):
        self.assertEqual(settled(program, house), ("trail", names, target))
        self.assertEqual(self.check(program, house), "trail")


class TestHouses(TestCase):
    """4.1: the least levels."""

    def test_no_name(self):
        self.house((), (), ())
        self.house((show(0, ONE), ("while", ZERO, ())), (), ())

    def test_an_empty_house(self):
        self.house((put("a", ONE),), (), (("a", 0),))
        self.house(CHAIN + (show(0, D), ("while", A, ())), (), (("a", 0), ("b", 0), ("c", 0), ("d", 0)))

    def test_a_house_that_tells_some_names(self):
        self.house((put("b", A),), (("a", 1),), (("a", 1), ("b", 1)))
        self.house((put("b", A),), (("b", 1),), (("a", 0), ("b", 1)))
        self.house((put("c", add(A, B)),), (("a", 1), ("b", 2)), (("a", 1), ("b", 2), ("c", 2)))
        self.house((put("c", add(A, B)),), (("a", 2), ("b", 1)), (("a", 2), ("b", 1), ("c", 2)))

    def test_a_house_that_tells_all_names(self):
        for levels in ((0, 0), (0, 1), (1, 1), (0, 2), (1, 2), (2, 2)):
            house = (("a", levels[0]), ("b", levels[1]))
            self.house((put("b", A),), house, house)

    def test_names_that_are_not_in_the_program(self):
        self.house((), (("a", 2), ("zz", 1)), (("a", 2), ("zz", 1)))
        self.house((put("b", C),), (("a", 2), ("bb", 1), ("d", 0)), (("a", 2), ("b", 0), ("bb", 1), ("c", 0), ("d", 0)))

    def test_a_name_without_any_flow(self):
        self.house((put("b", ONE), ("if", C, (), ())), (("a", 2),), (("a", 2), ("b", 0), ("c", 0)))

    def test_over_several_names(self):
        for level in (0, 1, 2):
            expected = tuple((name, level) for name in "abcd")
            self.house(CHAIN, (("a", level),), expected)
            self.house(tuple(reversed(CHAIN)), (("a", level),), expected)

    def test_from_the_middle(self):
        self.house(CHAIN, (("b", 1),), (("a", 0), ("b", 1), ("c", 1), ("d", 1)))
        self.house(CHAIN, (("b", 1), ("d", 2)), (("a", 0), ("b", 1), ("c", 1), ("d", 2)))

    def test_a_told_name_higher_than_what_comes_to_it(self):
        self.house(CHAIN, (("a", 1), ("c", 2)), (("a", 1), ("b", 1), ("c", 2), ("d", 2)))

    def test_round_in_a_ring(self):
        ring = CHAIN + (put("a", D),)
        self.house(ring, (), tuple((name, 0) for name in "abcd"))
        for name in "abcd":
            for level in (0, 1, 2):
                self.house(ring, ((name, level),), tuple((other, level) for other in "abcd"))

    def test_a_ring_beside_a_told_name(self):
        program = (put("b", C), put("c", B), put("b", A), put("d", D))
        self.house(program, (("a", 2),), (("a", 2), ("b", 2), ("c", 2), ("d", 0)))
        self.house(program, (("d", 2),), (("a", 0), ("b", 0), ("c", 0), ("d", 2)))

    def test_two_levels_on_their_ways(self):
        program = (put("c", A), put("d", B), put("e", add(C, D)), show(2, E), show(1, C))
        expected = (("a", 1), ("b", 2), ("c", 1), ("d", 2), ("e", 2))
        self.house(program, (("a", 1), ("b", 2)), expected)

    def test_by_an_if(self):
        self.house((("if", A, (put("b", ONE),), (put("c", ONE),)),), (("a", 2),), (("a", 2), ("b", 2), ("c", 2)))
        program = (("if", A, (("if", B, (put("c", ONE),), (show(1, ZERO),)),), ()),)
        self.house(program, (("a", 1),), (("a", 1), ("b", 0), ("c", 1)))

    def test_not_by_a_while(self):
        self.house((("while", A, (put("b", ONE),)),), (("c", 2),), (("a", 0), ("b", 0), ("c", 2)))
        self.house((("while", A, (put("b", C),)),), (("c", 2),), (("a", 0), ("b", 2), ("c", 2)))

    def test_rising_by_names(self):
        program = (put("b", ("name", "zz")), put("aa", ("name", "ab")), put("c", ("name", "a")))
        expected = (("a", 0), ("aa", 0), ("ab", 0), ("b", 1), ("c", 0), ("zz", 1), ("zzz", 2))
        self.house(program, (("zz", 1), ("zzz", 2)), expected)


class TestTrails(TestCase):
    """4.1: a trail that goes down."""

    def test_one_name_to_a_page(self):
        for level in (1, 2):
            for page in range(level):
                self.trail((show(page, A),), (("a", level),), ("a",), ("page", page))
            self.trail((("while", A, ()),), (("a", level),), ("a",), ("page", 0))
        self.assertEqual([self.check((show(page, A),), (("a", page),)) for page in (0, 1, 2)], ["house"] * 3)

    def test_one_name_to_a_told_name(self):
        for level in (1, 2):
            for lower in range(level):
                self.trail((put("b", A),), (("a", level), ("b", lower)), ("a",), B)

    def test_many_names_to_a_page(self):
        for level in (1, 2):
            self.trail(CHAIN + (show(0, D),), (("a", level),), ("a", "b", "c", "d"), ("page", 0))
            self.trail(CHAIN + (("while", D, ()),), (("a", level),), ("a", "b", "c", "d"), ("page", 0))
        self.trail(CHAIN + (show(1, D),), (("a", 2),), ("a", "b", "c", "d"), ("page", 1))
        self.assertEqual(self.check(CHAIN + (show(1, D),), (("a", 1),)), "house")

    def test_many_names_to_a_told_name(self):
        self.trail(CHAIN, (("a", 2), ("d", 1)), ("a", "b", "c"), D)
        self.trail(CHAIN, (("a", 1), ("d", 0)), ("a", "b", "c"), D)
        self.trail(CHAIN, (("b", 1), ("d", 0)), ("b", "c"), D)

    def test_by_ifs(self):
        self.trail((("if", A, (put("b", ONE),), ()), show(0, B)), (("a", 1),), ("a", "b"), ("page", 0))
        self.trail((("if", A, (("while", ONE, ()),), ()),), (("a", 1),), ("a",), ("page", 0))
        self.trail((("if", ONE, (), (("if", A, (), (show(1, ONE),)),)),), (("a", 2),), ("a",), ("page", 1))

    def test_past_a_ring(self):
        ring = (put("b", A), put("c", B), put("b", C), put("a", C))
        self.check_trail(settled(ring + (show(0, C),), (("a", 2),)), ring + (show(0, C),), (("a", 2),))
        self.trail(ring, (("a", 2), ("c", 0)), ("a", "b"), C)

    def test_only_names_in_the_house_have_levels(self):
        # A name that is told to be low keeps the trail from going on, and is its target.
        self.trail(CHAIN, (("a", 2), ("c", 0), ("d", 2)), ("a", "b"), C)
        self.trail(CHAIN, (("a", 2), ("b", 0)), ("a",), B)

    def test_one_way_of_several_goes_down(self):
        program = (put("b", A), put("c", A), put("d", B), put("d", C), show(2, B), show(2, C), show(1, D))
        self.assertEqual(self.check(program, (("a", 1),)), "house")
        self.assertEqual(self.check(program, (("a", 2),)), "trail")

    def test_a_higher_told_name_among_lower_ones(self):
        program = (put("d", A), put("d", B), put("d", C), show(1, D))
        self.assertEqual(self.check(program, (("a", 1), ("b", 0), ("c", 1))), "house")
        self.trail(program, (("a", 1), ("b", 2), ("c", 1)), ("b", "d"), ("page", 1))


class TestTheWhole(TestCase):
    """4.1 and 0.2 (c): over many programs and houses."""

    def test_programs_of_chance(self):
        maker = Maker(30)
        told = [self.check(maker.block(2), maker.house()) for count in range(1500)]
        self.assertGreater(told.count("house"), 300)
        self.assertGreater(told.count("trail"), 300)

    def test_all_tiny_programs_and_houses(self):
        told = [self.check(program, house) for program in tiny_programs() for house in tiny_houses()]
        self.assertGreater(told.count("house"), 1000)
        self.assertGreater(told.count("trail"), 1000)

    def test_webs_of_puts(self):
        # Puts alone over six names, so that levels rise over many steps and meet.
        maker = Maker(31)
        told, lengths = [], []
        for count in range(400):
            names = ["a", "b", "c", "d", "e", "f"]
            deeds = [put(maker.random.choice(names), ("name", maker.random.choice(names))) for step in range(6)]
            house = tuple((name, maker.random.randrange(3)) for name in names if maker.random.randrange(2))
            program = tuple(deeds) + (show(maker.random.randrange(3), ("name", maker.random.choice(names))),)
            told.append(self.check(program, house))
            answer = settled(program, house)
            if answer[0] == "trail":
                lengths.append(len(answer[1]))
        self.assertGreater(told.count("house"), 50)
        self.assertGreater(told.count("trail"), 50)
        self.assertGreater(max(lengths), 2)

    def test_never_both(self):
        # A house that lets the program leaves no way down, and so no trail, also through told names.
        maker = Maker(32)
        for count in range(300):
            program, house = maker.block(2), maker.house()
            self.assertEqual(settled(program, house)[0] == "trail", goes_down(program, house), (program, house))

    def test_told_again_of_the_whole_house(self):
        maker = Maker(33)
        for count in range(500):
            program, house = maker.block(2), maker.house()
            told = settled(program, house)
            if told[0] == "house":
                self.assertEqual(settled(program, told[1]), told)

    def test_asked_again_and_handed_in_unchanged(self):
        maker = Maker(34)
        for count in range(500):
            program, house = maker.block(2), maker.house()
            before = repr((program, house))
            told = settled(program, house)
            self.assertEqual(repr((program, house)), before)
            self.assertEqual(settled(program, house), told)
            self.assertEqual(settled(rebuilt(program), rebuilt(house)), told)

    def test_as_deep_as_is_promised(self):
        program = nested(18, (put("x", add(A, B)),))
        self.house(program, (("b", 2),), (("a", 0), ("b", 2), ("x", 2)))
        self.trail(program, (("b", 2), ("x", 1)), ("b",), ("name", "x"))

    def test_a_long_chain(self):
        letters = "abcdefghijklmnopqrstuvwxyz"
        names = [first + second for first in letters for second in letters]
        chain = tuple(put(later, ("name", name)) for name, later in zip(names, names[1:]))
        self.assertEqual(settled(chain, (("aa", 2),)), ("house", tuple((name, 2) for name in names)))
        told = settled(chain + (show(1, less(("name", "zz"), times(ONE, ONE))),), (("aa", 2),))
        self.assertEqual(told, ("trail", tuple(names), ("page", 1)))

    def test_nothing_is_refused_somewhat_beyond(self):
        self.assertEqual(settled((put("b", A),), (("a", 3),)), ("house", (("a", 3), ("b", 3))))
        self.assertEqual(settled((show(2, A),), (("a", 3),)), ("trail", ("a",), ("page", 2)))
        self.assertEqual(settled((put("b", A),), (("a", -1),)), ("house", (("a", -1), ("b", 0))))
        self.assertEqual(settled((put("abcd", A),), (("a", 1),)), ("house", (("a", 1), ("abcd", 1))))


def goes_down(program, house):
    """Whether any way by flows leads from a told name to a lower page or told name."""
    levels = {("name", name): level for name, level in house} | {("page", page): page for page in (0, 1, 2)}
    for name, level in house:
        reached = {("name", name)}
        while True:
            more = reached | {target for source, target in plain_flows(program) if ("name", source) in reached}
            if more == reached:
                break
            reached = more
        if any(levels.get(place, level) < level for place in reached):
            return True
    return False


if __name__ == "__main__":
    unittest.main()
