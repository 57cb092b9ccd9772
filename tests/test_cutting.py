import unittest

from small_programs import (
    A, B, ONE, ZERO, Maker, add, cases, deep_term, is_plain, less, names_within, nested, put, rebuilt, show, times,
    tiny_houses, tiny_programs,
)
from whisperwall.cutting import cut
from whisperwall.things import is_program

HOUSE = (("a", 0), ("b", 1), ("c", 2))
C, D = ("name", "c"), ("name", "d")
ABOVE = (("a", 0), ("b", 1), ("c", 2), ("d", 0))


def plain_cut(block, house, level):
    """The cut of a program, written apart from the package."""
    high = {name for name, own in house if own > level}
    kept = []
    for deed in block:
        kind, first, *rest = deed
        if kind == "put" and first not in high:
            kept.append(deed)
        if kind == "show" and not first > level:
            kept.append(deed)
        if kind == "while" or kind == "if" and not high & set(names_within(first)):
            kept.append((kind, first) + tuple(plain_cut(part, house, level) for part in rest))
    return tuple(kept)


class TestDeeds(unittest.TestCase):
    """5.1: what is cut out, and what stays."""

    def test_no_deed(self):
        for level in (0, 1, 2):
            self.assertEqual(cut((), (), level), ())
            self.assertEqual(cut((), HOUSE, level), ())

    def test_puts(self):
        for name, own in ABOVE:
            for level in (0, 1, 2):
                self.assertEqual(cut((put(name, ONE),), HOUSE, level), (put(name, ONE),) if own <= level else ())

    def test_shows(self):
        for page in (0, 1, 2):
            for level in (0, 1, 2):
                for house in ((), HOUSE):
                    self.assertEqual(cut((show(page, A),), house, level), (show(page, A),) if page <= level else ())

    def test_the_terms_of_puts_and_shows_are_not_asked(self):
        for level in (0, 1, 2):
            self.assertEqual(cut((put("a", C), show(0, add(B, C))), HOUSE, level), (put("a", C), show(0, add(B, C))))

    def test_ifs(self):
        for name, own in ABOVE:
            for term in (("name", name), add(ONE, ("name", name)), less(times(A, ("name", name)), D)):
                for one, other in (((), ()), ((put("a", ONE),), ()), ((), (put("a", ONE),))):
                    deed = ("if", term, one, other)
                    for level in (0, 1, 2):
                        self.assertEqual(cut((deed,), HOUSE, level), (deed,) if own <= level else ())

    def test_an_if_without_names(self):
        deed = ("if", ZERO, (put("a", C),), (show(0, A),))
        for level in (0, 1, 2):
            self.assertEqual(cut((deed,), HOUSE, level), (deed,))

    def test_an_if_with_several_names(self):
        deed = ("if", add(A, B), (show(0, ONE),), ())
        self.assertEqual(cut((deed,), HOUSE, 0), ())
        self.assertEqual(cut((deed,), HOUSE, 1), (deed,))
        deed = ("if", less(times(C, A), B), (show(0, ONE),), ())
        self.assertEqual(cut((deed,), HOUSE, 1), ())
        self.assertEqual(cut((deed,), HOUSE, 2), (deed,))

    def test_a_while_stays_whatever_its_term(self):
        for term in (A, B, C, D, ZERO, add(B, C)):
            for level in (0, 1, 2):
                self.assertEqual(cut((("while", term, ()),), HOUSE, level), (("while", term, ()),))

    def test_the_order_of_those_that_stay(self):
        program = (show(0, A), put("b", ONE), put("a", B), show(2, A), show(1, B), put("c", A), show(0, B))
        self.assertEqual(cut(program, HOUSE, 0), (show(0, A), put("a", B), show(0, B)))
        self.assertEqual(cut(program, HOUSE, 1), (show(0, A), put("b", ONE), put("a", B), show(1, B), show(0, B)))
        self.assertEqual(cut(program, HOUSE, 2), program)

    def test_the_same_deed_more_than_once(self):
        self.assertEqual(cut((show(0, A), show(1, A), show(0, A)), HOUSE, 0), (show(0, A), show(0, A)))


class TestBlocks(unittest.TestCase):
    """5.1: in the blocks of all others likewise."""

    BLOCK = (put("a", ONE), put("b", ONE), put("c", ONE), show(0, A), show(1, A), show(2, A))
    KEPT = (
        (put("a", ONE), show(0, A)),
        (put("a", ONE), put("b", ONE), show(0, A), show(1, A)),
        (put("a", ONE), put("b", ONE), put("c", ONE), show(0, A), show(1, A), show(2, A)),
    )

    def test_within_whiles(self):
        for level in (0, 1, 2):
            told = cut((("while", A, self.BLOCK), show(0, ONE)), HOUSE, level)
            self.assertEqual(told, (("while", A, self.KEPT[level]), show(0, ONE)))

    def test_within_ifs(self):
        for level in (0, 1, 2):
            kept = self.KEPT[level]
            self.assertEqual(cut((("if", A, self.BLOCK, ()),), HOUSE, level), (("if", A, kept, ()),))
            self.assertEqual(cut((("if", A, (), self.BLOCK),), HOUSE, level), (("if", A, (), kept),))
            self.assertEqual(cut((("if", A, self.BLOCK, self.BLOCK),), HOUSE, level), (("if", A, kept, kept),))

    def test_blocks_in_blocks(self):
        for level in (0, 1, 2):
            for depth in range(1, 8):
                self.assertEqual(cut(nested(depth, self.BLOCK), HOUSE, level), nested(depth, self.KEPT[level]))

    def test_ifs_within_blocks(self):
        inner = ("if", B, (show(1, ONE),), (show(2, ONE), show(0, ONE)))
        program = (("while", A, (inner, show(2, A))), ("if", A, (show(0, A),), (inner,)))
        self.assertEqual(cut(program, HOUSE, 0), (("while", A, ()), ("if", A, (show(0, A),), ())))
        kept = ("if", B, (show(1, ONE),), (show(0, ONE),))
        self.assertEqual(cut(program, HOUSE, 1), (("while", A, (kept,)), ("if", A, (show(0, A),), (kept,))))
        self.assertEqual(cut(program, HOUSE, 2), program)

    def test_an_if_goes_with_all_that_is_in_it(self):
        program = (("if", C, (show(0, A), ("while", A, (put("a", ZERO),))), (put("a", ONE),)), show(0, A))
        self.assertEqual(cut(program, HOUSE, 1), (show(0, A),))

    def test_blocks_that_become_empty(self):
        self.assertEqual(cut((("while", A, (put("c", ONE),)),), HOUSE, 1), (("while", A, ()),))
        self.assertEqual(cut((("if", A, (put("c", ONE),), (show(2, A),)),), HOUSE, 1), (("if", A, (), ()),))
        program = (("while", A, (("if", A, (("while", D, (show(2, ONE), put("b", ONE))),), ()),)),)
        self.assertEqual(cut(program, HOUSE, 0), (("while", A, (("if", A, (("while", D, ()),), ()),)),))

    def test_all_is_cut_out(self):
        self.assertEqual(cut((put("c", ONE), show(2, C), ("if", C, (), ())), HOUSE, 0), ())


class TestHouses(unittest.TestCase):
    """5.1: names that are not in the house, and level 2."""

    def test_names_that_are_not_in_the_house(self):
        program = (put("d", ONE), put("e", D), ("if", D, (put("x", ONE),), ()), ("while", D, (put("y", ONE),)))
        for house in ((), HOUSE, (("dd", 2), ("ee", 2))):
            for level in (0, 1, 2):
                self.assertEqual(cut(program, house, level), program)

    def test_level_2(self):
        maker = Maker(40)
        for count in range(300):
            program = maker.block(3)
            self.assertEqual(cut(program, maker.house(), 2), program)

    def test_against_the_plain_way(self):
        maker = Maker(41)
        changed = 0
        for count in range(1500):
            program, house, level = maker.block(3), maker.house(), count % 3
            told = cut(program, house, level)
            self.assertEqual(told, plain_cut(program, house, level), (program, house, level))
            changed += told != program
        self.assertGreater(changed, 300)

    def test_all_tiny_programs_and_houses(self):
        for program in tiny_programs():
            for house in tiny_houses():
                for level in (0, 1):
                    self.assertEqual(cut(program, house, level), plain_cut(program, house, level))

    def test_cut_again(self):
        maker = Maker(42)
        for count in range(500):
            program, house = maker.block(3), maker.house()
            for level in (0, 1, 2):
                told = cut(program, house, level)
                self.assertEqual(cut(told, house, level), told)
                for lower in range(level):
                    self.assertEqual(cut(told, house, lower), cut(program, house, lower))

    def test_one_behind_the_other(self):
        maker = Maker(43)
        for program, other, store, most in cases(300, 44):
            house = maker.house()
            for level in (0, 1):
                parts = cut(program, house, level) + cut(other, house, level)
                self.assertEqual(cut(program + other, house, level), parts)

    def test_a_program_of_tuples_alone(self):
        maker = Maker(45)
        for count in range(300):
            told = cut(maker.block(3), maker.house(), count % 3)
            self.assertTrue(is_plain(told))
            self.assertIs(is_program(told), True)

    def test_asked_again_and_handed_in_unchanged(self):
        maker = Maker(46)
        for count in range(300):
            program, house, level = maker.block(3), maker.house(), count % 3
            before = repr((program, house))
            told = cut(program, house, level)
            self.assertEqual(repr((program, house)), before)
            self.assertEqual(cut(program, house, level), told)
            self.assertEqual(cut(rebuilt(program), rebuilt(house), level), told)

    def test_as_deep_as_is_promised(self):
        inner = (put("c", add(A, ONE)), put("a", add(A, ONE)))
        self.assertEqual(cut(nested(18, inner), HOUSE, 0), nested(18, inner[1:]))
        self.assertEqual(cut((("if", deep_term(37, C), (), ()), show(0, deep_term(37, C))), HOUSE, 1),
                         (show(0, deep_term(37, C)),))

    def test_nothing_is_refused_somewhat_beyond(self):
        program = (show(3, A), put("abcd", ONE), show(0, ("number", 1000)))
        self.assertEqual(cut(program, (("abcd", 3),), 2), program[2:])
        self.assertEqual(cut(program, (("abcd", 3),), 3), program)
        self.assertEqual(cut(nested(30, program), (), 2), nested(30, program[1:]))


if __name__ == "__main__":
    unittest.main()
