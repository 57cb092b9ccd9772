import unittest

from small_programs import (
    A, B, ONE, ZERO, Maker, add, deep_term, less, names_within, nested, number, put, rebuilt, show, times,
)
from whisperwall.things import is_house, is_program, is_store, names_of

BAD_NAMES = (
    "", "abcd", "abcde", "A", "aB", "Abc", "a1", "1", "a ", " a", " ", "a_", "-", "`", "{", "a~", "\u00e9", "\u00df",
    None, True, False, 0, 1, (), ("a",), ["a"], [],
)
BAD_NUMBERS = (-1, -997, 997, 998, 10 ** 20, True, False, None, "", "1", "a", (), (1,), [], [1], ("number", 1))
BAD_LEVELS = (-1, -3, 3, 4, 996, True, False, None, "", "0", "a", (), (0,), [], [0], ("number", 0))
NOT_TUPLES = (None, True, False, 0, 1, -1, 997, "", "a", "number", "put", [])
UNKNOWN_WORDS = ("", "a", "nme", "Number", "minus", "PUT", "put ", "for", None, True, 0, (), [], ["sum"], ("sum",))

GOOD_NAMES = ("a", "z", "aa", "zz", "abc", "zzz", "put", "sum", "if")
GOOD_TERMS = (
    [number(n) for n in (0, 1, 2, 500, 995, 996)]
    + [("name", name) for name in GOOD_NAMES]
    + [add(ONE, A), times(A, ZERO), less(A, B), less(add(A, B), times(ONE, add(ZERO, A)))]
    + [deep_term(30, A)]
)
GOOD_DEEDS = (
    [put(name, ONE) for name in GOOD_NAMES]
    + [show(level, A) for level in (0, 1, 2)]
    + [("if", A, (), ()), ("if", A, (put("a", B),), ()), ("if", A, (), (show(0, B), show(1, A)))]
    + [("while", A, ()), ("while", A, (put("a", ZERO),)), ("while", A, (("while", B, ()), ("if", A, (), ())))]
)

BAD_TERMS = (
    list(NOT_TUPLES)
    + [()]
    + [("number", n) for n in BAD_NUMBERS]
    + [("name", name) for name in BAD_NAMES]
    + [("number",), ("name",), ("number", 1, 1), ("name", "a", "b"), ("name", "a", A), ("number", ONE, ONE)]
    + [("number", 1, 1, 1), ("name", "a", "a", "a"), ("number", 1, ()), ("name", "a", (), ())]
    + [["number", 1], ["name", "a"], ["sum", ONE, ONE]]
    + [(word, 1) for word in UNKNOWN_WORDS]
    + [(word, "a") for word in UNKNOWN_WORDS]
    + [(word, ONE, ONE) for word in UNKNOWN_WORDS]
    + [(word,) + rest for word in ("sum", "times", "less") for rest in ((), (A,), (A, A, A), ((A, A),), (1, 1))]
    + [(word, "a", "b") for word in ("sum", "times", "less")]
    + [("put", "a", ONE), ("show", 0, ONE), ("if", A, (), ()), ("while", A, ()), (ONE,), (ONE, ONE)]
)
BAD_DEEDS = (
    list(NOT_TUPLES)
    + [()]
    + [("put", name, ONE) for name in BAD_NAMES]
    + [("show", level, ONE) for level in BAD_LEVELS]
    + [("put",), ("put", "a"), ("put", "a", ONE, ONE), ("put", ONE, "a"), ["put", "a", ONE]]
    + [("show",), ("show", 0), ("show", 0, ONE, ONE), ("show", ONE, 0), ["show", 0, ONE]]
    + [("if",), ("if", A), ("if", A, ()), ("if", A, (), (), ()), ("if", (), (), A), ["if", A, (), ()]]
    + [("while",), ("while", A), ("while", A, (), ()), ("while", (), A), ["while", A, ()]]
    + [("put", "a", ()), ("show", 0, ()), ("if", (), (), ()), ("while", (), ())]
    + [("put", 0, ONE), ("show", "a", ONE), ("if", A, put("a", A), ()), ("while", A, put("a", A))]
    + [(word, "a", ONE) for word in UNKNOWN_WORDS]
    + [(word, 0, ONE) for word in UNKNOWN_WORDS]
    + [(word, A, ()) for word in UNKNOWN_WORDS]
    + [(word, A, (), ()) for word in UNKNOWN_WORDS]
    + [(put("a", ONE),), ONE, A, add(A, A)]
)
BAD_BLOCKS = list(NOT_TUPLES) + [[put("a", ONE)], put("a", ONE), ONE, A, (A,), ((),), ([],), ("a",), (None,)]

P = put("a", ONE)


def deeds_round_a_term(term):
    """Deeds in which a term stands everywhere that a term may stand."""
    yield put("a", term)
    yield show(0, term)
    yield ("if", term, (), ())
    yield ("if", term, (P,), (P,))
    yield ("while", term, ())
    yield ("while", term, (P,))
    for kind in ("sum", "times", "less"):
        yield put("a", (kind, term, ONE))
        yield show(2, (kind, ONE, term))
        yield ("while", (kind, (kind, ONE, term), A), ())
    yield put("a", deep_term(7, term))
    yield ("if", deep_term(24, term), (), ())


def blocks_round_a_deed(deed):
    """Blocks in which a deed stands alone, first, last, in the middle, and deep."""
    yield (deed,)
    yield (deed, P, P)
    yield (P, P, deed)
    yield (P, deed, P)
    yield from blocks_round_a_block((deed,))
    yield from blocks_round_a_block((deed, P))
    yield from blocks_round_a_block((P, deed))


def blocks_round_a_block(block):
    yield (("if", A, block, ()),)
    yield (("if", A, (), block),)
    yield (("if", A, (P,), block), P)
    yield (P, ("while", A, block))
    yield (("while", A, block), P)
    for depth in (2, 3, 4, 12):
        yield nested(depth, block)


class TestCase(unittest.TestCase):
    def holds(self, told, thing):
        self.assertIs(told(thing), True, f"{told.__name__} of {thing!r}")

    def fails(self, told, thing):
        self.assertIs(told(thing), False, f"{told.__name__} of {thing!r}")


class TestPrograms(TestCase):
    """1.1 and 0.5: what is a program."""

    def test_the_empty_block_is_a_program(self):
        self.holds(is_program, ())

    def test_each_kind_of_deed_everywhere(self):
        for deed in GOOD_DEEDS:
            for program in blocks_round_a_deed(deed):
                self.holds(is_program, program)

    def test_each_kind_of_term_everywhere(self):
        for term in GOOD_TERMS:
            for deed in deeds_round_a_term(term):
                self.holds(is_program, (deed,))

    def test_many_programs_of_chance(self):
        maker = Maker(1)
        for count in range(300):
            self.holds(is_program, maker.block(3))

    def test_no_wrong_term_anywhere(self):
        for term in BAD_TERMS:
            for deed in deeds_round_a_term(term):
                self.fails(is_program, (deed,))

    def test_no_wrong_term_within_blocks(self):
        for term in BAD_TERMS:
            for program in blocks_round_a_deed(put("a", term)):
                self.fails(is_program, program)
            for program in blocks_round_a_deed(("while", add(A, term), ())):
                self.fails(is_program, program)

    def test_no_wrong_deed_anywhere(self):
        for deed in BAD_DEEDS:
            for program in blocks_round_a_deed(deed):
                self.fails(is_program, program)

    def test_no_wrong_block_anywhere(self):
        for block in BAD_BLOCKS:
            self.fails(is_program, block)
            for program in blocks_round_a_block(block):
                self.fails(is_program, program)

    def test_a_deed_or_a_term_by_itself_is_no_program(self):
        for thing in list(GOOD_DEEDS) + list(GOOD_TERMS):
            self.fails(is_program, thing)

    def test_no_tuple_may_be_a_list(self):
        program = nested(3, (put("a", add(A, less(ONE, B))), show(1, times(A, A)), ("if", A, (P,), (P,))))
        self.holds(is_program, program)
        changed = list(with_one_list(program))
        self.assertEqual(len(changed), 30)
        for thing in changed:
            self.fails(is_program, thing)

    def test_equal_texts_are_the_same(self):
        for deed in GOOD_DEEDS:
            self.holds(is_program, rebuilt((deed,)))

    def test_as_deep_as_is_promised(self):
        # With the term of a deed at the bottom, something lies in 40 others.
        program = nested(18, (put("a", add(A, ONE)),))
        self.assertEqual(depth_of(program), 40)
        self.holds(is_program, program)
        self.fails(is_program, nested(18, (put("a", add(A, number(997))),)))
        self.fails(is_program, nested(18, (put("a", add(A, number(True))),)))
        self.holds(is_program, (show(0, deep_term(37, A)),))
        self.fails(is_program, (show(0, deep_term(37, ("name", "A"))),))


def with_one_list(thing):
    """The thing again and again, each time with another one of its tuples as a list."""
    if isinstance(thing, tuple):
        yield list(thing)
        for place, part in enumerate(thing):
            for changed in with_one_list(part):
                yield thing[:place] + (changed,) + thing[place + 1:]


def depth_of(thing):
    """In how many others the deepest part of a thing lies."""
    if not isinstance(thing, (tuple, list)) or not thing:
        return 0
    return 1 + max(depth_of(part) for part in thing)


class TestPairs(TestCase):
    """1.1 and 0.6: what is a store, what is a house."""

    def test_the_empty_tuple_is_both(self):
        self.holds(is_store, ())
        self.holds(is_house, ())

    def test_numbers_of_stores(self):
        for n in (0, 1, 2, 3, 500, 995, 996):
            self.holds(is_store, (("a", n),))
            self.holds(is_store, (("a", 1), ("b", n), ("c", 2)))

    def test_levels_of_houses(self):
        for level in (0, 1, 2):
            self.holds(is_house, (("a", level),))
            self.holds(is_house, (("a", 1), ("b", level), ("c", 2)))

    def test_wrong_numbers(self):
        for n in BAD_NUMBERS:
            self.fails(is_store, (("a", n),))
            self.fails(is_store, (("a", n), ("b", 1), ("c", 1)))
            self.fails(is_store, (("a", 1), ("b", n), ("c", 1)))
            self.fails(is_store, (("a", 1), ("b", 1), ("c", n)))

    def test_wrong_levels(self):
        for level in BAD_LEVELS:
            self.fails(is_house, (("a", level),))
            self.fails(is_house, (("a", level), ("b", 1), ("c", 1)))
            self.fails(is_house, (("a", 1), ("b", level), ("c", 1)))
            self.fails(is_house, (("a", 1), ("b", 1), ("c", level)))

    def test_names(self):
        for told in (is_store, is_house):
            for name in GOOD_NAMES:
                self.holds(told, ((name, 1),))
            for name in BAD_NAMES:
                self.fails(told, ((name, 1),))
                self.fails(told, (("a", 1), (name, 1)))
                self.fails(told, ((name, 1), ("zz", 1), ("zzz", 1)))

    def test_each_letter(self):
        letters = "abcdefghijklmnopqrstuvwxyz"
        for told in (is_store, is_house):
            for place in (" ", "x ", " x", "xx ", "x x", " xx"):
                for sign in map(chr, range(32, 127)):
                    thing = ((place.replace(" ", sign), 1),)
                    self.assertIs(told(thing), sign in letters, thing)

    def test_names_rise(self):
        rising = ("a", "aa", "aaa", "ab", "b", "ba", "z", "zz", "zzz")
        for told in (is_store, is_house):
            self.holds(told, tuple((name, 1) for name in rising))
            for place, lower in enumerate(rising):
                for higher in rising[place + 1:]:
                    self.holds(told, ((lower, 2), (higher, 1)))
                    self.fails(told, ((higher, 1), (lower, 2)))
                    self.fails(told, ((higher, 1), (lower, 1)))

    def test_the_first_or_last_two_may_not_fall(self):
        for told in (is_store, is_house):
            self.fails(told, (("b", 1), ("a", 1), ("c", 1), ("d", 1)))
            self.fails(told, (("a", 1), ("b", 1), ("d", 1), ("c", 1)))

    def test_no_name_twice(self):
        for told in (is_store, is_house):
            self.fails(told, (("a", 1), ("a", 1)))
            self.fails(told, (("a", 1), ("a", 2)))
            self.fails(told, (("a", 1), ("b", 1), ("b", 0), ("c", 1)))
            self.fails(told, (("a", 1), ("b", 1), ("a", 1)))

    def test_things_that_are_no_tuples_of_pairs(self):
        pairs = (("a",), ("a", 1, 1), (), (1, "a"), ["a", 1], "a1", "a", ("a", (1,)), (("a", 1),), None, 1, True, [])
        for told in (is_store, is_house):
            for thing in list(NOT_TUPLES) + [("a", 1), [("a", 1)], [["a", 1]]]:
                self.fails(told, thing)
            for pair in pairs:
                self.fails(told, (pair,))
                self.fails(told, (pair, ("b", 1)))
                self.fails(told, (("b", 1), pair))

    def test_a_store_that_is_no_house(self):
        self.holds(is_store, (("a", 3),))
        self.fails(is_house, (("a", 3),))

    def test_pairs_are_no_program_and_deeds_no_pairs(self):
        self.fails(is_program, (("a", 1),))
        for deed in GOOD_DEEDS:
            self.fails(is_store, (deed,))
            self.fails(is_house, (deed,))


class TestAnyThing(TestCase):
    """1.1: of things of whatever form the answer is told, up to some thirty deep."""

    def test_things_thirty_deep(self):
        for innermost in (None, True, 0, "a", "put", (), [], ONE, P, ("a", 1)):
            for rounds in range(1, 33):
                thing, other, mixed, worded = innermost, innermost, innermost, innermost
                for step in range(rounds):
                    thing = (thing,)
                    other = [other]
                    mixed = (mixed, []) if step % 2 else [(), mixed]
                    worded = ("sum", worded, 1) if step % 2 else ("if", worded, (), ())
                for told in (is_program, is_house, is_store):
                    self.fails(told, other)
                    self.fails(told, mixed)
                    self.fails(told, worded)
                    if rounds > 1:
                        self.fails(told, thing)

    def test_a_program_is_told_by_its_form_alone(self):
        for told in (is_program, is_house, is_store):
            for thing in (None, True, False, 0, 1, "", "a", [], [()], ((),), ("",), (None,), (True,), (0,)):
                self.fails(told, thing)

    def test_what_is_handed_in_stays(self):
        inner = [1, ["a"]]
        thing = [inner, ("put", "a", inner)]
        before = repr(thing)
        for told in (is_program, is_house, is_store):
            told(thing)
            told(tuple(thing))
        self.assertEqual(repr(thing), before)

    def test_asked_again(self):
        for thing in [(), (P,), (("a", 1),), (("b", 1), ("a", 1)), (None,)]:
            for told in (is_program, is_house, is_store):
                self.assertIs(told(thing), told(rebuilt(thing)))


class TestNames(unittest.TestCase):
    """1.2: the names of a program."""

    def test_no_name(self):
        self.assertEqual(names_of(()), ())
        self.assertEqual(names_of((show(0, ONE), ("if", ONE, (), ()), ("while", ZERO, (show(2, add(ONE, ONE)),)))), ())

    def test_a_name_that_is_put_to(self):
        self.assertEqual(names_of((put("abc", ONE),)), ("abc",))

    def test_names_in_terms(self):
        for deed in deeds_round_a_term(("name", "q")):
            self.assertIn("q", names_of((deed,)))
            self.assertEqual(set(names_of((deed,))) - {"a"}, {"q"})

    def test_names_at_every_depth(self):
        for program in blocks_round_a_deed(put("x", ("name", "y"))):
            self.assertEqual(set(names_of(program)) - {"a"}, {"x", "y"})
        for program in blocks_round_a_deed(show(1, deep_term(12, ("name", "y")))):
            self.assertEqual(set(names_of(program)) - {"a"}, {"y"})

    def test_each_place_of_each_deed(self):
        names = [("name", name) for name in ("h", "g", "f", "e", "d", "c", "b", "a")]
        program = (
            ("if", add(names[0], names[1]), (put("i", names[2]),), (show(1, times(names[3], ONE)),)),
            ("while", less(ONE, names[4]), (put("j", less(names[5], names[6])), show(2, names[7]))),
        )
        self.assertEqual(names_of(program), ("a", "b", "c", "d", "e", "f", "g", "h", "i", "j"))

    def test_names_like_words(self):
        program = (put("put", ("name", "sum")), ("if", ("name", "if"), (), ()))
        self.assertEqual(names_of(program), ("if", "put", "sum"))

    def test_none_twice_and_rising(self):
        program = (put("b", A), put("aa", B), put("a", add(A, A)), put("b", ("name", "zzz")), put("ab", ("name", "z")))
        self.assertEqual(names_of(program), ("a", "aa", "ab", "b", "z", "zzz"))

    def test_a_tuple_of_texts(self):
        told = names_of((put("b", A),))
        self.assertIs(type(told), tuple)
        self.assertEqual([type(name) for name in told], [str, str])

    def test_against_a_search_of_the_whole(self):
        maker = Maker(2)
        for count in range(300):
            program = maker.block(3)
            expected = tuple(sorted(set(names_within(program))))
            self.assertEqual(names_of(program), expected)
            self.assertEqual(names_of(rebuilt(program)), expected)

    def test_as_deep_as_is_promised(self):
        self.assertEqual(names_of(nested(18, (put("x", add(A, B)),))), ("a", "b", "x"))
        self.assertEqual(names_of((show(0, deep_term(37, B)),)), ("b",))

    def test_what_is_handed_in_stays(self):
        program = nested(5, (put("x", add(A, B)),))
        before = repr(program)
        names_of(program)
        self.assertEqual(repr(program), before)


if __name__ == "__main__":
    unittest.main()
