"""The calls 0 to 8: ordinary inputs, refusals, refusals due at once, and the list they stand in."""

import unittest

from tests.asking import BOOKS, PRINT, Model, ask, build, flat, flow, heat, last, outside, run, temp, trace
from warmrooms.building import answers

TEXT = ("room a 0 20\nroom b 4 -3\noutside o 5\noutside p -12\nlink a b 7\nlink o a 9\nlink b p 100\n"
        "heater h a 30\nheater i b 1000000\n")
START = [build(TEXT), outside(1, 6), heat(1, 12), run(3)]
LOOKS = [PRINT, temp(1), temp(2), trace(1), trace(2), BOOKS, flow(1), flow(2), flow(3)]
FAR = 1000000000


class Refused(unittest.TestCase):
    def refused(self, call, why, start=START):
        """The call is refused alone, and all is as if it had not been asked."""
        after = LOOKS + [heat(2, 1), outside(2, 1), run(1)] + LOOKS + [run(900)]
        plain = ask(*start, *after)
        mixed = ask(*start, call, *after)
        self.assertEqual(mixed[len(start)], [why], call)
        self.assertEqual(mixed[:len(start)] + mixed[len(start) + 1:], plain, call)


class Build(Refused):
    def test_it_counts_what_was_told(self):
        self.assertEqual(ask(build(TEXT)), [[0, 2, 2, 3, 2]])

    def test_it_begins_anew(self):
        fresh = ask(build(TEXT), *LOOKS, run(1000))
        self.assertEqual(ask(*START, build(TEXT), *LOOKS, run(1000))[4:], fresh)
        self.assertEqual(fresh[6][4:], [0] * 7)

    def test_another_building_takes_its_place(self):
        other = build("room x 2 9\noutside y 1\nlink x y 3\n")
        after = [PRINT, temp(1), temp(2), trace(1), BOOKS, flow(1), flow(2), heat(1, 0), outside(2, 0), run(1000)]
        self.assertEqual(ask(*START, other, *after)[4:], ask(other, *after))

    def test_a_wrong_text_answers_one_and_where_and_why(self):
        self.assertEqual(ask(build("room a 0 1\nroom b 0 x\n")), [[1, 2, 1]])
        self.assertEqual(ask(build("room c 9 1\nroom a 0 1\noutside b 1\nlink a b 65\n")), [[1, 2, 6]])


class Outside(Refused):
    def test_ordinary(self):
        model = Model(TEXT)
        model.warm["o"], model.warm["p"] = 41, -40
        self.assertEqual(ask(build(TEXT), outside(1, 41), outside(2, -40), *model.look_calls())[1:],
                         [[0], [0]] + model.looks())

    def test_edges_of_the_temperature(self):
        self.assertEqual(ask(build(TEXT), outside(1, 100000), trace(1), outside(1, -100000), trace(1)),
                         [[0, 2, 2, 3, 2], [0], [0, 20000000, 14057171875, 0], [0], [0, 20000000, -14067828125, 0]])

    def test_no_such_outside(self):
        for number in (0, 3, -1, -2, FAR, -FAR):
            self.refused(outside(number, 0), -1)
        self.assertEqual(ask(outside(1, 0)), [[-1]])

    def test_no_such_temperature(self):
        for temperature in (100001, -100001, FAR, -FAR):
            self.refused(outside(2, temperature), -2)

    def test_both_at_once(self):
        for number in (0, 3, -FAR):
            for temperature in (100001, -FAR):
                self.refused(outside(number, temperature), -1)


class Heat(Refused):
    def test_ordinary(self):
        model = Model(TEXT)
        model.levels["h"], model.levels["i"] = 29, 999999
        model.step()
        self.assertEqual(ask(build(TEXT), heat(1, 29), heat(2, 999999), run(1), *model.look_calls())[1:],
                         [[0], [0], [0, 1]] + model.looks())

    def test_a_level_stays_until_it_is_changed(self):
        self.assertEqual(last(build(TEXT), heat(1, 5), run(2), heat(2, 1), run(2), heat(1, 0), run(3), BOOKS)[4],
                         5 * 4 + 1 * 5)

    def test_edges_of_the_level(self):
        self.assertEqual(ask(build(TEXT), heat(1, 30), trace(1), heat(1, 0), trace(1), heat(2, 1000000))[1:],
                         [[0], [0, 20000000, -4625000, 30], [0], [0, 20000000, -4625000, 0], [0]])

    def test_no_such_heater(self):
        for number in (0, 3, -1, -2, FAR, -FAR):
            self.refused(heat(number, 0), -1)
        self.assertEqual(ask(heat(1, 0)), [[-1]])

    def test_no_such_level(self):
        for level in (31, -1, 1000000, FAR, -FAR):
            self.refused(heat(1, level), -2)
        for level in (1000001, -1):
            self.refused(heat(2, level), -2)

    def test_both_at_once(self):
        for number in (0, 3, FAR):
            for level in (-1, 1000001):
                self.refused(heat(number, level), -1)


class Run(Refused):
    def test_ordinary(self):
        self.assertEqual(ask(build(TEXT), run(1), run(2), run(30)), [[0, 2, 2, 3, 2], [0, 1], [0, 3], [0, 33]])

    def test_an_empty_building_runs_too(self):
        self.assertEqual(ask(run(1000), run(1), BOOKS, build(""), run(1000)),
                         [[0, 1000], [-3], [0, 0, 0, 0, 0], [0, 0, 0, 0, 0], [0, 1000]])

    def test_out_of_range(self):
        for steps in (0, -1, 1001, FAR, -FAR):
            self.refused(run(steps), -2)

    def test_a_clock_that_would_pass_a_thousand(self):
        self.refused(run(998), -3)
        self.refused(run(1000), -3)
        self.refused(run(901), -3, START[:-1] + [run(100)])
        self.assertEqual(ask(build(TEXT), run(999), run(2), run(1), run(1)),
                         [[0, 2, 2, 3, 2], [0, 999], [-3], [0, 1000], [-3]])
        self.assertEqual(ask(*START, run(997))[4], [0, 1000])

    def test_both_at_once(self):
        self.refused(run(1001), -2)
        self.refused(run(FAR), -2)
        self.assertEqual(ask(run(1000), run(1001), run(0), run(-1)), [[0, 1000], [-2], [-2], [-2]])


class Looks(Refused):
    def test_ordinary(self):
        model = Model(TEXT)
        model.warm["o"], model.levels["h"] = 6, 12
        for step in range(3):
            model.step()
        self.assertEqual(ask(*START, *model.look_calls())[4:], model.looks())

    def test_at_first(self):
        model = Model(TEXT)
        self.assertEqual(ask(build(TEXT), *model.look_calls())[1:], model.looks())

    def test_no_such_room(self):
        for number in (0, 3, -1, -2, FAR, -FAR):
            self.refused(temp(number), -1)
            self.refused(trace(number), -1)
        self.assertEqual(ask(temp(1), trace(1)), [[-1], [-1]])

    def test_no_such_link(self):
        for number in (0, 4, -1, -3, FAR, -FAR):
            self.refused(flow(number), -1)
        self.assertEqual(ask(flow(1)), [[-1]])

    def test_books_of_an_empty_building(self):
        self.assertEqual(ask(BOOKS, PRINT), [[0, 0, 0, 0, 0], [0]])

    def test_books_have_a_row_for_each_outside(self):
        for count in range(5):
            text = "".join(f"outside o{i} {i}\n" for i in range(count))
            self.assertEqual(last(build(text), run(5), BOOKS), [0, 0, 0, 0, 0] + [0, 0, 0] * count)


class TheList(unittest.TestCase):
    def test_each_answer_has_its_length_ahead_of_it(self):
        text = "room a 0 3\n"
        self.assertEqual(answers(flat([build(text), PRINT, temp(1), temp(2), run(1), run(1001), build("x"), BOOKS])),
                         [5, 0, 1, 0, 0, 0, 12, 0] + list(text.encode()) + [4, 0, 3, 0, 3, 1, -1, 2, 0, 1, 1, -2,
                                                                             3, 1, 1, 1, 5, 0, 3, 0, 3, 0])

    def test_the_list_handed_in_is_unchanged(self):
        calls = flat(START + [build("room z 0 1\nx\n"), heat(9, 9)] + LOOKS)
        before = list(calls)
        answers(calls)
        self.assertEqual(calls, before)

    def test_the_same_list_gives_the_same_answer(self):
        calls = flat(START + LOOKS)
        first = answers(calls)
        self.assertEqual(answers(calls), first)
        self.assertEqual(answers(flat([PRINT])), [1, 0])
        self.assertEqual(answers(calls), first)

    def test_what_is_given_back_is_a_list_of_its_own(self):
        calls = flat([build(TEXT), PRINT])
        first = answers(calls)
        kept = list(first)
        first.append(1)
        self.assertEqual(answers(calls), kept)

    def test_all_answers_are_whole_numbers(self):
        row = answers(flat(START + [temp(9), run(0), run(1000), build("x")] + LOOKS))
        self.assertIs(type(row), list)
        for number in row:
            self.assertIs(type(number), int)

    def test_two_hundred_calls(self):
        self.assertEqual(ask(*[run(5)] * 200), [[0, 5 * i] for i in range(1, 201)])

    def test_a_text_of_four_thousand_bytes(self):
        self.assertEqual(ask(build("\n" * 4000), build("a" * 4000), build(bytes([255]) * 3999 + b"\n")),
                         [[1, 1, 1], [1, 1, 1], [1, 1, 1]])


if __name__ == "__main__":
    unittest.main()
