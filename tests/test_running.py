import unittest

from small_programs import (
    A, B, NAMES, ONE, ZERO, Maker, PlainRun, add, cases, count_down, deep_term, is_plain, less, nested, number,
    plain_run, put, rebuilt, show, times,
)
from whisperwall.running import run, value

NO_PAGES = ((), (), ())
FOREVER = ("while", ONE, ())


class TestValue(unittest.TestCase):
    """2.1 and 0.4: the number of a term."""

    def test_numbers(self):
        for n in (0, 1, 2, 500, 995, 996):
            self.assertEqual(value(number(n), ()), n)
            self.assertEqual(value(number(n), (("a", 7),)), n)

    def test_names(self):
        store = (("a", 5), ("ab", 0), ("b", 996), ("zzz", 1))
        self.assertEqual([value(("name", name), store) for name in ("a", "ab", "b", "zzz")], [5, 0, 996, 1])

    def test_names_that_are_not_in_the_store(self):
        for name in ("a", "aa", "abc", "c", "zz"):
            self.assertEqual(value(("name", name), ()), 0)
            self.assertEqual(value(("name", name), (("ab", 5), ("b", 6), ("zzz", 7))), 0)

    def test_sums(self):
        triples = ((0, 0, 0), (2, 3, 5), (0, 996, 996), (996, 0, 996), (500, 496, 996), (996, 1, 0), (500, 497, 0),
                   (996, 996, 995), (500, 500, 3))
        for first, second, expected in triples:
            self.assertEqual(value(add(number(first), number(second)), ()), expected)
            self.assertEqual(value(add(A, B), (("a", first), ("b", second))), expected)

    def test_products(self):
        triples = ((0, 0, 0), (0, 996, 0), (2, 3, 6), (1, 996, 996), (2, 498, 996), (2, 499, 1), (996, 996, 1),
                   (996, 2, 995), (500, 500, 750), (31, 32, 992), (32, 32, 27))
        for first, second, expected in triples:
            self.assertEqual(value(times(number(first), number(second)), ()), expected)
            self.assertEqual(value(times(A, B), (("a", first), ("b", second))), expected)

    def test_less(self):
        triples = ((0, 0, 0), (0, 1, 1), (1, 0, 0), (996, 996, 0), (995, 996, 1), (996, 995, 0), (0, 996, 1),
                   (996, 0, 0), (9, 10, 1))
        for first, second, expected in triples:
            for told in (value(less(number(first), number(second)), ()), value(less(A, B), (("a", first), ("b", second)))):
                self.assertEqual(told, expected)
                self.assertIs(type(told), int)

    def test_less_is_of_rests(self):
        self.assertEqual(value(less(add(number(996), ONE), ONE), ()), 1)
        self.assertEqual(value(less(number(996), times(number(996), number(2))), ()), 0)

    def test_terms_in_one_another(self):
        store = (("a", 10), ("b", 20))
        self.assertEqual(value(add(times(A, B), less(A, B)), store), 201)
        self.assertEqual(value(times(add(A, B), add(B, less(B, A))), store), 600)
        self.assertEqual(value(less(less(A, B), less(B, A)), store), 0)
        self.assertEqual(value(less(less(B, A), less(A, B)), store), 1)

    def test_as_deep_as_is_promised(self):
        term = A
        for step in range(38):
            term = add(term, ONE) if step % 2 else add(ONE, term)
        self.assertEqual(value(term, (("a", 996),)), 37)

    def test_against_the_plain_way(self):
        maker = Maker(3)
        for count in range(1000):
            term, store = maker.term(4), maker.store()
            told = value(term, store)
            self.assertEqual(told, PlainRun(store, 0).value(term), (term, store))
            self.assertEqual(told, value(rebuilt(term), rebuilt(store)))
            self.assertIs(type(told), int)
            self.assertTrue(0 <= told <= 996)


class TestDeeds(unittest.TestCase):
    """2.2: what each deed does."""

    def test_no_deed(self):
        self.assertEqual(run((), (), 0), (0, (), NO_PAGES))
        self.assertEqual(run((), (("a", 3),), 9), (0, (("a", 3),), NO_PAGES))

    def test_put(self):
        self.assertEqual(run((put("a", number(5)),), (), 0), (0, (("a", 5),), NO_PAGES))
        self.assertEqual(run((put("a", number(5)),), (("a", 3), ("b", 1)), 0), (0, (("a", 5), ("b", 1)), NO_PAGES))
        self.assertEqual(run((put("a", add(A, ONE)),), (("a", 996),), 0), (0, (), NO_PAGES))

    def test_puts_in_order(self):
        program = (put("c", A), put("a", B), put("b", ("name", "c")))
        self.assertEqual(run(program, (("a", 1), ("b", 2)), 0), (0, (("a", 2), ("b", 1), ("c", 1)), NO_PAGES))

    def test_show(self):
        for level in (0, 1, 2):
            pages = tuple((7,) if page == level else () for page in (0, 1, 2))
            self.assertEqual(run((show(level, number(7)),), (), 0), (0, (), pages))

    def test_pages_in_order(self):
        program = (show(2, ONE), show(0, A), put("a", number(9)), show(0, A), show(2, ZERO), show(0, A), show(2, A))
        self.assertEqual(run(program, (("a", 4),), 0), (0, (("a", 9),), ((4, 9, 9), (), (1, 0, 9))))

    def test_if(self):
        program = (("if", A, (show(0, ONE),), (show(1, ONE),)), show(2, A))
        for n in (1, 2, 996):
            self.assertEqual(run(program, (("a", n),), 0), (0, (("a", n),), ((1,), (), (n,))))
        self.assertEqual(run(program, (("a", 0),), 0), (0, (), ((), (1,), (0,))))
        self.assertEqual(run(program, (), 0), (0, (), ((), (1,), (0,))))

    def test_if_is_asked_once(self):
        program = (("if", A, (put("a", ZERO), show(0, A)), (put("a", ONE), show(1, A))),)
        self.assertEqual(run(program, (("a", 1),), 0), (0, (), ((0,), (), ())))
        self.assertEqual(run(program, (), 0), (0, (("a", 1),), ((), (1,), ())))

    def test_if_with_several_deeds(self):
        block = (show(0, ONE), put("a", add(A, ONE)), show(0, A), show(1, ZERO))
        self.assertEqual(run((("if", ONE, block, ()),), (), 0), (0, (("a", 1),), ((1, 1), (0,), ())))
        self.assertEqual(run((("if", ZERO, (), block),), (), 0), (0, (("a", 1),), ((1, 1), (0,), ())))

    def test_while_that_is_not_entered(self):
        self.assertEqual(run((("while", A, (show(0, ONE),)), show(1, ONE)), (), 0), (0, (), ((), (1,), ())))

    def test_while(self):
        program = (("while", A, (show(0, A), count_down("a"))), show(1, number(8)))
        self.assertEqual(run(program, (("a", 3),), 9), (3, (), ((3, 2, 1), (8,), ())))

    def test_while_asks_before_each_turn_alone(self):
        program = (("while", A, (put("a", ZERO), show(0, number(6)), put("b", number(2)), show(0, B))),)
        self.assertEqual(run(program, (("a", 5),), 9), (1, (("b", 2),), ((6, 2), (), ())))

    def test_while_within_a_while(self):
        inner = (put("b", number(2)), ("while", B, (show(0, add(times(A, number(10)), B)), count_down("b"))))
        program = (("while", A, inner + (count_down("a"), show(1, A))),)
        self.assertEqual(run(program, (("a", 2),), 6), (6, (), ((22, 21, 12, 11), (1, 0), ())))
        self.assertEqual(run(program, (("a", 2),), 5)[0], None)

    def test_if_within_a_while_within_an_if(self):
        choice = ("if", less(A, number(3)), (show(0, A),), (show(2, A), ("while", B, (count_down("b"),))))
        program = (("if", A, (("while", A, (choice, count_down("a"))), show(1, ONE)), ()), show(1, number(2)))
        self.assertEqual(run(program, (("a", 4), ("b", 3)), 7), (7, (), ((2, 1), (1, 2), (4, 3))))
        self.assertEqual(run(program, (("b", 3),), 7), (0, (("b", 3),), ((), (2,), ())))

    def test_turns_of_several_whiles_are_one_count(self):
        loop = ("while", A, (count_down("a"),))
        program = (loop, put("a", number(2)), loop, loop)
        self.assertEqual(run(program, (("a", 3),), 5), (5, (), NO_PAGES))
        self.assertEqual(run(program, (("a", 3),), 4), (None, (("a", 1),), NO_PAGES))


class TestStops(unittest.TestCase):
    """2.3: when a run is stopped, and what stands and was shown then."""

    def test_a_most_of_nought(self):
        self.assertEqual(run((show(0, ONE), put("a", ONE)), (), 0), (0, (("a", 1),), ((1,), (), ())))
        self.assertEqual(run((("while", ZERO, ()),), (), 0), (0, (), NO_PAGES))
        self.assertEqual(run((FOREVER,), (), 0), (None, (), NO_PAGES))
        program = (show(0, ONE), put("a", number(4)), ("while", A, (show(0, A), put("a", ZERO))), show(1, ONE))
        self.assertEqual(run(program, (), 0), (None, (("a", 4),), ((1,), (), ())))

    def test_just_enough_and_one_too_few(self):
        program = (("while", A, (show(0, A), count_down("a"), put("b", add(B, ONE)))), show(2, B))
        for n in (1, 2, 3, 10, 996):
            down = tuple(range(n, 0, -1))
            ended = (n, (("b", n),), (down, (), (n,)))
            self.assertEqual(run(program, (("a", n),), n), ended)
            self.assertEqual(run(program, (("a", n),), n + 1), ended)
            left = tuple(pair for pair in (("a", 1), ("b", n - 1)) if pair[1])
            self.assertEqual(run(program, (("a", n),), n - 1), (None, left, (down[:-1], (), ())))

    def test_turns_are_counted_as_they_begin(self):
        # The last turn that is let is done to its end, and the deeds behind a while that ends within it too.
        program = (("while", ONE, (show(0, A), put("a", add(A, ONE)), show(1, A))), show(2, ONE))
        self.assertEqual(run(program, (), 3), (None, (("a", 3),), ((0, 1, 2), (1, 2, 3), ())))

    def test_stopped_within_blocks(self):
        inner = (show(0, A), FOREVER, show(1, A))
        program = (put("a", number(5)), ("if", A, (("while", A, inner), show(2, ONE)), ()), put("a", ZERO))
        for most in (1, 2, 5):
            self.assertEqual(run(program, (), most), (None, (("a", 5),), ((5,), (), ())))
        self.assertEqual(run(program, (), 0), (None, (("a", 5),), NO_PAGES))

    def test_a_while_that_ends_does_not_stop(self):
        program = (("while", A, (count_down("a"),)), ("while", A, (show(0, ONE),)), show(1, ONE))
        self.assertEqual(run(program, (("a", 2),), 2), (2, (), ((), (1,), ())))

    def test_many_turns(self):
        loop = ("while", A, (put("b", number(40)), ("while", B, (count_down("b"),)), count_down("a")))
        self.assertEqual(run((loop,), (("a", 500),), 20500), (20500, (), NO_PAGES))
        self.assertEqual(run((loop,), (("a", 500),), 20499), (None, (("a", 1), ("b", 1)), NO_PAGES))
        self.assertEqual(run((FOREVER,), (("a", 1),), 20000), (None, (("a", 1),), NO_PAGES))

    def test_as_deep_as_is_promised(self):
        program = nested(18, (show(0, add(A, ONE)),))
        turns, store, pages = run(program, (("a", 1),), 50)
        self.assertEqual((turns, store), (None, (("a", 1),)))
        self.assertEqual((turns, store, pages), plain_run(program, (("a", 1),), 50))
        self.assertEqual(run((show(1, deep_term(37, ONE)),), (), 0), plain_run((show(1, deep_term(37, ONE)),), (), 0))


class TestStoresThatAreTold(unittest.TestCase):
    """2.3 and 0.6: a store without noughts, rising by names."""

    def test_noughts_that_were_put(self):
        self.assertEqual(run((put("a", ZERO), put("b", ONE)), (("a", 5),), 0)[1], (("b", 1),))
        self.assertEqual(run((put("a", ZERO), FOREVER), (("a", 5),), 2)[1], ())

    def test_noughts_that_were_handed_in(self):
        self.assertEqual(run((), (("a", 0), ("b", 1), ("c", 0)), 0)[1], (("b", 1),))
        self.assertEqual(run((FOREVER,), (("a", 0), ("b", 1), ("c", 0)), 0)[1], (("b", 1),))

    def test_rising_by_names(self):
        program = tuple(put(name, ONE) for name in ("zz", "b", "aa", "z", "a", "ab"))
        expected = tuple((name, 1) for name in ("a", "aa", "ab", "b", "z", "zz"))
        self.assertEqual(run(program, (), 0)[1], expected)
        self.assertEqual(run(program[:3], (("a", 1), ("ab", 1), ("z", 1)), 0)[1], expected)
        self.assertEqual(run(program + (FOREVER,), (), 0)[1], expected)

    def test_names_that_the_program_does_not_know(self):
        self.assertEqual(run((put("a", ONE),), (("b", 996), ("zzz", 3)), 0)[1], (("a", 1), ("b", 996), ("zzz", 3)))


class TestTheWhole(unittest.TestCase):
    """2.2 and 2.3 against a second way to run; 0.3 over many programs."""

    def test_against_the_plain_way(self):
        ended, stopped = 0, 0
        for program, other, store, most in cases(2000, 4):
            told = run(program, store, most)
            self.assertEqual(told, plain_run(program, store, most), (program, store, most))
            ended, stopped = ended + (told[0] is not None), stopped + (told[0] is None)
        self.assertGreater(ended, 300)
        self.assertGreater(stopped, 300)

    def test_tuples_and_whole_numbers_alone(self):
        for program, other, store, most in cases(300, 5):
            told = run(program, store, most)
            self.assertTrue(is_plain(told), told)
            self.assertEqual((len(told), len(told[2])), (3, 3))
            self.assertTrue(all(0 <= n <= 996 for page in told[2] for n in page))
            self.assertTrue(all(1 <= n <= 996 for name, n in told[1]))

    def test_asked_again_and_handed_in_unchanged(self):
        first = []
        for program, other, store, most in cases(300, 6):
            before = repr((program, store, most))
            first.append(run(program, store, most))
            self.assertEqual(repr((program, store, most)), before)
        again = [run(program, store, most) for program, other, store, most in cases(300, 6)]
        self.assertEqual(first, again)

    def test_equal_things_are_the_same(self):
        for program, other, store, most in cases(300, 7):
            self.assertEqual(run(rebuilt(program), rebuilt(store), most), run(program, store, most))


class TestBehindOneAnother(unittest.TestCase):
    """0.2 (d): two programs one behind the other, and more turns."""

    def check_behind(self, program, other, store, most):
        turns, left, pages = run(program, store, most)
        whole = run(program + other, store, most)
        if turns is None:
            self.assertEqual(whole, (None, left, pages), (program, other, store, most))
            return "first stopped"
        more, last, behind = run(other, left, most - turns)
        pages = tuple(page + rest for page, rest in zip(pages, behind, strict=True))
        together = None if more is None else turns + more
        self.assertEqual(whole, (together, last, pages), (program, other, store, most))
        return "second stopped" if more is None else "ended"

    def check_more_turns(self, program, store, most):
        turns, left, pages = run(program, store, most)
        for more in (1, 2, 7):
            later = run(program, store, most + more)
            if turns is not None:
                self.assertEqual(later, (turns, left, pages), (program, store, most))
            else:
                self.assertTrue(later[0] is None or most < later[0] <= most + more)
                for page, longer in zip(pages, later[2], strict=True):
                    self.assertEqual(longer[:len(page)], page, (program, store, most))
        if turns is None:
            return "stopped"
        self.assertLessEqual(turns, most)
        self.assertEqual(run(program, store, turns), (turns, left, pages))
        if turns > 0:
            self.assertIs(run(program, store, turns - 1)[0], None)
        return "ended"

    def all_occur(self, seen, kinds, least):
        for kind in kinds:
            self.assertGreater(seen.count(kind), least, kind)

    def test_programs_of_chance_behind_one_another(self):
        seen = [self.check_behind(*case) for case in cases(1500, 8)]
        self.all_occur(seen, ("first stopped", "second stopped", "ended"), 100)

    def test_all_small_programs_behind_one_another(self):
        seen = []
        for program in small_programs():
            for other in small_programs():
                for most in (0, 1, 3):
                    seen.append(self.check_behind(program, other, (("a", 2),), most))
        self.all_occur(seen, ("first stopped", "second stopped", "ended"), 100)

    def test_more_turns_of_programs_of_chance(self):
        seen = [self.check_more_turns(program, store, most) for program, other, store, most in cases(1500, 9)]
        self.all_occur(seen, ("stopped", "ended"), 200)

    def test_more_turns_of_all_small_programs(self):
        seen = []
        for program in small_programs():
            for n in (0, 1, 2):
                for most in range(5):
                    seen.append(self.check_more_turns(program, (("a", n), ("b", 1)), most))
        self.all_occur(seen, ("stopped", "ended"), 100)

    def test_a_run_may_be_parted_at_every_deed(self):
        for program, other, store, most in cases(200, 10):
            whole = program + other
            for place in range(len(whole) + 1):
                self.check_behind(whole[:place], whole[place:], store, most)


def small_programs():
    """All programs of one or two of some deeds, by themselves, chosen and gone round."""
    deeds = (put("a", ZERO), count_down("a"), put("b", A), show(0, A), show(1, B))
    blocks = [()] + [(deed,) for deed in deeds] + [(deed, count_down("a")) for deed in deeds]
    for block in blocks:
        yield block
        yield (("while", A, block),)
        yield (("if", A, block, (FOREVER,)),)
        yield (("if", less(A, ONE), (show(2, ONE),), (("while", B, block + (put("b", ZERO),)),)),)


class TestMaker(unittest.TestCase):
    def test_all_names_and_deeds_come_up(self):
        text = repr([case for case in cases(100, 11)])
        for word in ("number", "name", "sum", "times", "less", "put", "show", "if", "while") + NAMES:
            self.assertIn(repr(word), text)


if __name__ == "__main__":
    unittest.main()
