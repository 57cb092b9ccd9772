import unittest

from small_programs import (
    A, B, ONE, ZERO, Maker, add, cases, deep_term, is_plain, less, names_within, nested, number, plain_flows,
    plain_lets, put, rebuilt, show, times, tiny_houses, tiny_programs,
)
from whisperwall.flowing import flows, lets, seen

C, D, E = ("name", "c"), ("name", "d"), ("name", "e")
PAGES = (("page", 0), ("page", 1), ("page", 2))
X, Y = ("name", "x"), ("name", "y")


class TestFlowsOfDeeds(unittest.TestCase):
    """3.1: the flows of a deed by itself."""

    def test_no_deed_and_no_name(self):
        self.assertEqual(flows(()), ())
        for deed in (put("x", ONE), show(0, ONE), show(2, add(ONE, ZERO)), ("while", ONE, ()), ("if", ONE, (), ())):
            self.assertEqual(flows((deed,)), ())

    def test_put(self):
        self.assertEqual(flows((put("x", A),)), (("a", X),))
        self.assertEqual(flows((put("x", add(B, A)),)), (("a", X), ("b", X)))

    def test_put_to_a_name_in_its_own_term(self):
        self.assertEqual(flows((put("a", add(A, B)),)), (("a", A), ("b", A)))

    def test_show(self):
        for level in (0, 1, 2):
            self.assertEqual(flows((show(level, A),)), (("a", ("page", level)),))
            self.assertEqual(flows((show(level, less(B, A)),)), (("a", ("page", level)), ("b", ("page", level))))

    def test_while(self):
        self.assertEqual(flows((("while", A, ()),)), (("a", ("page", 0)),))
        self.assertEqual(flows((("while", times(B, A), ()),)), (("a", ("page", 0)), ("b", ("page", 0))))

    def test_a_while_and_its_block(self):
        # What stands in the term of a while flows to page 0, not to the targets in its block.
        self.assertEqual(flows((("while", A, (put("x", B),)),)), (("a", ("page", 0)), ("b", X)))
        self.assertEqual(flows((("while", A, (show(2, B),)),)), (("a", ("page", 0)), ("b", ("page", 2))))
        self.assertEqual(flows((("while", A, (put("x", ONE), show(1, ONE))),)), (("a", ("page", 0)),))
        self.assertEqual(flows((("while", ONE, (put("x", B),)),)), (("b", X),))

    def test_a_while_within_a_while(self):
        program = (("while", A, (("while", B, (put("x", C),)), show(2, D))),)
        self.assertEqual(flows(program), (("a", PAGES[0]), ("b", PAGES[0]), ("c", X), ("d", PAGES[2])))

    def test_each_place_in_a_term(self):
        term = add(times(A, less(B, ONE)), less(number(5), add(C, times(D, E))))
        for deed, target in ((put("x", term), X), (show(1, term), PAGES[1]), (("while", term, ()), PAGES[0])):
            self.assertEqual(flows((deed,)), tuple((name, target) for name in "abcde"))


class TestFlowsWithinIfs(unittest.TestCase):
    """3.1: the names in the terms of the ifs round a deed."""

    def test_an_if_with_nothing_in_it(self):
        self.assertEqual(flows((("if", A, (), ()),)), ())
        self.assertEqual(flows((("if", A, (("if", B, (), ()),), ()),)), ())

    def test_each_deed_in_each_block(self):
        loop = ("while", B, ())
        for deed, target in ((put("x", B), X), (show(0, B), PAGES[0]), (show(2, B), PAGES[2]), (loop, PAGES[0])):
            self.assertEqual(flows((("if", A, (deed,), ()),)), (("a", target), ("b", target)))
            self.assertEqual(flows((("if", A, (), (deed,)),)), (("a", target), ("b", target)))

    def test_deeds_without_names(self):
        for deed, target in ((put("x", ONE), X), (show(1, ONE), PAGES[1]), (("while", ONE, ()), PAGES[0])):
            self.assertEqual(flows((("if", A, (deed,), ()),)), (("a", target),))
            self.assertEqual(flows((("if", A, (), (deed,)),)), (("a", target),))

    def test_both_blocks(self):
        program = (("if", A, (put("x", B),), (put("y", C),)),)
        self.assertEqual(flows(program), (("a", X), ("a", Y), ("b", X), ("c", Y)))

    def test_only_the_deeds_within(self):
        program = (put("x", B), ("if", A, (put("y", ONE),), ()), show(0, C), ("while", D, ()))
        self.assertEqual(flows(program), (("a", Y), ("b", X), ("c", PAGES[0]), ("d", PAGES[0])))

    def test_ifs_in_ifs(self):
        program = (("if", A, (("if", B, (put("x", C),), (show(1, ONE),)), put("y", D)), ()),)
        expected = (("a", X), ("a", Y), ("a", PAGES[1]), ("b", X), ("b", PAGES[1]), ("c", X), ("d", Y))
        self.assertEqual(flows(program), expected)

    def test_three_ifs_in_one_another(self):
        program = (("if", A, (), (("if", B, (("if", C, (), (put("x", ONE),)),), ()),)),)
        self.assertEqual(flows(program), (("a", X), ("b", X), ("c", X)))

    def test_a_while_in_an_if(self):
        program = (("if", A, (("while", B, (put("x", C), show(2, ONE))),), ()),)
        expected = (("a", X), ("a", PAGES[0]), ("a", PAGES[2]), ("b", PAGES[0]), ("c", X))
        self.assertEqual(flows(program), expected)

    def test_an_if_in_a_while(self):
        program = (("while", A, (("if", B, (put("x", C),), (("while", D, ()),)),)),)
        self.assertEqual(flows(program), (("a", PAGES[0]), ("b", X), ("b", PAGES[0]), ("c", X), ("d", PAGES[0])))

    def test_an_if_in_a_while_in_an_if(self):
        program = (("if", A, (), (("while", B, (("if", C, (put("x", D),), ()), put("y", ONE))),)),)
        expected = (("a", X), ("a", Y), ("a", PAGES[0]), ("b", PAGES[0]), ("c", X), ("d", X))
        self.assertEqual(flows(program), expected)

    def test_a_long_term_of_an_if(self):
        program = (("if", add(A, times(B, less(C, ONE))), (put("x", ONE),), (show(0, ONE),)),)
        self.assertEqual(flows(program), tuple((name, target) for name in "abc" for target in (X, PAGES[0])))

    def test_a_name_that_an_if_round_it_asks(self):
        self.assertEqual(flows((("if", A, (put("a", ZERO),), ()),)), (("a", A),))


class TestTheTupleOfFlows(unittest.TestCase):
    """3.1: rising, none twice, one behind the other."""

    def test_none_twice(self):
        deed = put("x", A)
        self.assertEqual(flows((put("x", add(A, A)), deed, ("if", A, (deed,), (deed,)))), (("a", X),))
        self.assertEqual(flows((show(0, A), ("while", A, (show(0, A),)))), (("a", PAGES[0]),))

    def test_rising(self):
        program = (show(2, A), show(0, A), put("b", A), put("aa", A), put("a", ("name", "aa")), put("a", B), show(1, A))
        expected = (
            ("a", ("name", "aa")), ("a", ("name", "b")), ("a", PAGES[0]), ("a", PAGES[1]), ("a", PAGES[2]),
            ("aa", ("name", "a")), ("b", ("name", "a")),
        )
        self.assertEqual(flows(program), expected)

    def test_names_like_words(self):
        program = (put("put", ("name", "if")), ("if", ("name", "sum"), (show(1, ("name", "put")),), ()))
        expected = (("if", ("name", "put")), ("put", PAGES[1]), ("sum", PAGES[1]))
        self.assertEqual(flows(program), expected)

    def test_against_the_plain_way(self):
        for program, other, store, most in cases(1000, 20):
            self.assertEqual(flows(program), tuple(sorted(plain_flows(program))), program)
        for program in tiny_programs():
            self.assertEqual(flows(program), tuple(sorted(plain_flows(program))), program)

    def test_one_behind_the_other(self):
        for program, other, store, most in cases(300, 21):
            self.assertEqual(flows(program + other), tuple(sorted(set(flows(program)) | set(flows(other)))))

    def test_each_flow_is_of_names_and_targets(self):
        for program, other, store, most in cases(300, 22):
            told = flows(program)
            self.assertTrue(is_plain(told))
            self.assertEqual(told, tuple(sorted(set(told))))
            names = set(names_within(program))
            for name, (kind, where) in told:
                self.assertIn(name, names)
                self.assertIn(where, {"name": names, "page": (0, 1, 2)}[kind])

    def test_asked_again_and_handed_in_unchanged(self):
        for program, other, store, most in cases(300, 23):
            before = repr(program)
            told = flows(program)
            self.assertEqual(repr(program), before)
            self.assertEqual(flows(program), told)
            self.assertEqual(flows(rebuilt(program)), told)

    def test_as_deep_as_is_promised(self):
        block = (put("x", A),)
        for step in range(18):
            block = (("if", ("name", "c" + "abcdefghijklmnopqr"[step]), block, ()),)
        self.assertEqual(flows(block), (("a", X),) + tuple(("c" + sign, X) for sign in "abcdefghijklmnopqr"))
        self.assertEqual(flows(nested(18, (put("x", add(A, B)),))), (("a", X), ("b", X)))
        self.assertEqual(flows((show(1, deep_term(37, B)),)), (("b", PAGES[1]),))

    def test_nothing_is_refused_somewhat_beyond(self):
        self.assertEqual(flows((show(3, ("name", "abcd")),)), (("abcd", ("page", 3)),))
        self.assertEqual(flows(nested(30, (put("x", add(A, number(1000))),))), (("a", X),))


class TestLets(unittest.TestCase):
    """3.2: whether nothing flows down."""

    def told(self, expected, program, house):
        self.assertIs(lets(program, house), expected, (program, house))

    def test_no_flow(self):
        for house in ((), (("a", 2),), (("a", 0), ("b", 2))):
            self.told(True, (), house)
            self.told(True, (put("a", ONE), show(0, ONE), ("while", ZERO, ()), ("if", B, (), ())), house)

    def test_to_a_name(self):
        for lower in (0, 1, 2):
            for higher in (0, 1, 2):
                self.told(lower <= higher, (put("b", A),), (("a", lower), ("b", higher)))
                self.told(lower <= higher, (put("a", B),), (("a", higher), ("b", lower)))

    def test_to_a_page(self):
        for level in (0, 1, 2):
            for page in (0, 1, 2):
                self.told(level <= page, (show(page, A),), (("a", level),))

    def test_by_a_while(self):
        for level in (0, 1, 2):
            self.told(level == 0, (("while", A, ()),), (("a", level),))
            self.told(level == 0, (("while", A, (show(2, ONE),)),), (("a", level),))

    def test_by_an_if(self):
        for level in (0, 1, 2):
            for target in (0, 1, 2):
                house = (("a", level), ("b", target))
                for deed in (put("b", ONE), show(target, ONE)):
                    self.told(level <= target, (("if", A, (deed,), ()),), house)
                    self.told(level <= target, (("if", A, (), (deed,)),), house)
                    self.told(level <= target, (("if", A, (), (("if", ONE, (deed,), ()),)),), house)

    def test_by_an_if_round_a_while(self):
        for level in (0, 1, 2):
            for loop in (("while", ONE, ()), ("while", B, ()), ("while", ZERO, (show(2, ONE),))):
                self.told(level == 0, (("if", A, (loop,), ()),), (("a", level),))
                self.told(level == 0, (("if", A, (), (("if", ONE, (loop,), ()),)),), (("a", level),))

    def test_a_while_need_not_be_above_its_block(self):
        self.told(True, (("while", A, (put("b", C), show(1, C))),), (("b", 1), ("c", 1)))

    def test_names_that_are_not_in_the_house(self):
        self.told(True, (put("b", A), show(0, B), ("while", A, ())), ())
        self.told(True, (put("b", A),), (("b", 2),))
        self.told(True, (put("b", A),), (("c", 2),))
        self.told(True, (put("b", A),), (("a", 0),))
        self.told(False, (put("b", A),), (("a", 1),))
        self.told(False, (put("b", A),), (("a", 2), ("c", 2)))
        self.told(False, (("if", A, (put("b", ONE),), ()),), (("a", 1),))

    def test_one_flow_down_among_many(self):
        up = (put("b", A), show(1, A), show(2, B), put("b", B))
        house = (("a", 1), ("b", 2))
        self.told(True, up, house)
        for place in range(len(up) + 1):
            for down in (put("a", B), show(1, B), show(0, A), put("c", A), ("while", A, ()), show(2, ONE)):
                self.told(down == show(2, ONE), up[:place] + (down,) + up[place:], house)

    def test_a_name_from_itself(self):
        for level in (0, 1, 2):
            self.told(True, (put("a", add(A, ONE)),), (("a", level),))

    def test_against_the_plain_way(self):
        maker = Maker(24)
        for count in range(2000):
            program, house = maker.block(2), maker.house()
            self.told(plain_lets(program, house), program, house)
        for program in tiny_programs():
            for house in tiny_houses():
                self.told(plain_lets(program, house), program, house)

    def test_one_behind_the_other(self):
        maker = Maker(25)
        for count in range(500):
            program, other, house = maker.block(1), maker.block(1), maker.house()
            self.told(lets(program, house) and lets(other, house), program + other, house)

    def test_asked_again_and_handed_in_unchanged(self):
        maker = Maker(26)
        for count in range(300):
            program, house = maker.block(2), maker.house()
            before = repr((program, house))
            told = lets(program, house)
            self.assertEqual(repr((program, house)), before)
            self.told(told, program, house)
            self.told(told, rebuilt(program), rebuilt(house))

    def test_as_deep_as_is_promised(self):
        self.told(False, nested(18, (put("x", add(A, B)),)), (("a", 1),))
        self.told(True, nested(18, (put("x", add(A, B)),)), (("a", 1), ("x", 1)))

    def test_nothing_is_refused_somewhat_beyond(self):
        self.told(True, (show(3, A),), (("a", 3),))
        self.told(False, (show(2, A),), (("a", 3),))


class TestSeen(unittest.TestCase):
    """3.3: the pairs of a store up to a level."""

    STORE = (("a", 5), ("ab", 0), ("b", 996), ("c", 7), ("zzz", 1))

    def test_each_level(self):
        house = (("a", 2), ("ab", 1), ("b", 0), ("c", 1), ("zzz", 2))
        self.assertEqual(seen(self.STORE, house, 0), (("b", 996),))
        self.assertEqual(seen(self.STORE, house, 1), (("ab", 0), ("b", 996), ("c", 7)))
        self.assertEqual(seen(self.STORE, house, 2), self.STORE)

    def test_names_that_are_not_in_the_house(self):
        for level in (0, 1, 2):
            self.assertEqual(seen(self.STORE, (), level), self.STORE)
            self.assertEqual(seen(self.STORE, (("aa", 2), ("d", 2)), level), self.STORE)
        self.assertEqual(seen(self.STORE, (("b", 1),), 0), (("a", 5), ("ab", 0), ("c", 7), ("zzz", 1)))

    def test_an_empty_store(self):
        for level in (0, 1, 2):
            self.assertEqual(seen((), (), level), ())
            self.assertEqual(seen((), (("a", 0), ("b", 2)), level), ())

    def test_noughts_stay(self):
        self.assertEqual(seen((("a", 0), ("b", 0)), (("b", 1),), 0), (("a", 0),))
        self.assertEqual(seen((("a", 0), ("b", 0)), (("b", 1),), 1), (("a", 0), ("b", 0)))

    def test_each_pair_by_itself(self):
        maker = Maker(27)
        for count in range(500):
            store, house, level = maker.store(), maker.house(), count % 3
            told = seen(store, house, level)
            levels = dict(house)
            self.assertTrue(is_plain(told))
            self.assertEqual(told, tuple(filter(lambda pair: not levels.get(pair[0], 0) > level, store)))
            self.assertEqual(told, seen(rebuilt(store), rebuilt(house), level))

    def test_handed_in_unchanged(self):
        house = (("a", 2), ("b", 1))
        before = repr((self.STORE, house))
        first = seen(self.STORE, house, 1)
        self.assertEqual(repr((self.STORE, house)), before)
        self.assertEqual(seen(self.STORE, house, 1), first)

    def test_nothing_is_refused_somewhat_beyond(self):
        self.assertEqual(seen((("a", 997), ("abcd", 1)), (("a", 3),), 2), (("abcd", 1),))
        self.assertEqual(seen((("a", 997), ("abcd", 1)), (("a", 3),), 3), (("a", 997), ("abcd", 1)))


if __name__ == "__main__":
    unittest.main()
