"""The calls 0 to 8, set and clock: ordinary inputs, refusals, several due at once, and the list they stand in."""

import unittest

from tests.asking import (BOOKS, CLOCK, FAR, PRINT, REST, Model, Refused, ask, bracket, build, flat, flow, halve, heat,
                          last, latest, least, outside, run, set_room, settle, temp, trace)
from warmrooms.building import answers

TEXT, START, LOOKS = Refused.TEXT, Refused.START, Refused.LOOKS


class Build(Refused):
    def test_it_counts_what_was_told(self):
        self.assertEqual(ask(build(TEXT)), [[0, 2, 2, 3, 2]])

    def test_it_begins_anew(self):
        fresh = ask(build(TEXT), *LOOKS, run(1000))
        self.assertEqual(ask(*START, build(TEXT), *LOOKS, run(1000))[4:], fresh)
        self.assertEqual(fresh[6][4:], [0] * 7)

    def test_another_building_takes_its_place(self):
        other = build("room x 2 9\noutside y 1\nlink x y 3\n")
        after = [PRINT, temp(1), temp(2), trace(1), BOOKS, flow(1), flow(2), heat(1, 0), outside(2, 0), run(1000)]
        self.assertEqual(ask(*START, other, *after)[4:], ask(other, *after))

    def test_a_wrong_text_answers_one_and_where_and_why(self):
        self.assertEqual(ask(build("room a 0 1\nroom b 0 x\n")), [[1, 2, 1]])
        self.assertEqual(ask(build("room c 9 1\nroom a 0 1\noutside b 1\nlink a b 65\n")), [[1, 2, 6]])


class Outside(Refused):
    def test_ordinary(self):
        model = Model(TEXT)
        model.warm["o"], model.warm["p"] = 41, -40
        self.assertEqual(ask(build(TEXT), outside(1, 41), outside(2, -40), *model.look_calls())[1:],
                         [[0], [0]] + model.looks())

    def test_edges_of_the_temperature(self):
        self.assertEqual(ask(build(TEXT), outside(1, 100000), trace(1), outside(1, -100000), trace(1)),
                         [[0, 2, 2, 3, 2], [0], [0, 20000000, 14057171875, 0], [0], [0, 20000000, -14067828125, 0]])

    def test_no_such_outside(self):
        for number in (0, 3, -1, -2, FAR, -FAR):
            self.refused(outside(number, 0), -1)
        self.assertEqual(ask(outside(1, 0)), [[-1]])

    def test_no_such_temperature(self):
        for temperature in (100001, -100001, FAR, -FAR):
            self.refused(outside(2, temperature), -2)

    def test_both_at_once(self):
        for number in (0, 3, -FAR):
            for temperature in (100001, -FAR):
                self.refused(outside(number, temperature), -1)


class Heat(Refused):
    def test_ordinary(self):
        model = Model(TEXT)
        model.levels["h"], model.levels["i"] = 29, 999999
        model.step()
        self.assertEqual(ask(build(TEXT), heat(1, 29), heat(2, 999999), run(1), *model.look_calls())[1:],
                         [[0], [0], [0, 1]] + model.looks())

    def test_a_level_stays_until_it_is_changed(self):
        self.assertEqual(last(build(TEXT), heat(1, 5), run(2), heat(2, 1), run(2), heat(1, 0), run(3), BOOKS)[4],
                         5 * 4 + 1 * 5)

    def test_edges_of_the_level(self):
        self.assertEqual(ask(build(TEXT), heat(1, 30), trace(1), heat(1, 0), trace(1), heat(2, 1000000))[1:],
                         [[0], [0, 20000000, -4625000, 30], [0], [0, 20000000, -4625000, 0], [0]])

    def test_no_such_heater(self):
        for number in (0, 3, -1, -2, FAR, -FAR):
            self.refused(heat(number, 0), -1)
        self.assertEqual(ask(heat(1, 0)), [[-1]])

    def test_no_such_level(self):
        for level in (31, -1, 1000000, FAR, -FAR):
            self.refused(heat(1, level), -2)
        for level in (1000001, -1):
            self.refused(heat(2, level), -2)

    def test_both_at_once(self):
        for number in (0, 3, FAR):
            for level in (-1, 1000001):
                self.refused(heat(number, level), -1)


class Run(Refused):
    def test_ordinary(self):
        self.assertEqual(ask(build(TEXT), run(1), run(2), run(30)), [[0, 2, 2, 3, 2], [0, 1], [0, 3], [0, 33]])

    def test_an_empty_building_runs_too(self):
        self.assertEqual(ask(run(1000), run(1), BOOKS, build(""), run(1000)),
                         [[0, 1000], [-3], [0, 0, 0, 0, 0], [0, 0, 0, 0, 0], [0, 1000]])

    def test_out_of_range(self):
        for steps in (0, -1, 1001, FAR, -FAR):
            self.refused(run(steps), -2)

    def test_a_clock_that_would_pass_a_thousand(self):
        self.refused(run(998), -3)
        self.refused(run(1000), -3)
        self.refused(run(901), -3, START[:-1] + [run(100)])
        self.assertEqual(ask(build(TEXT), run(999), run(2), run(1), run(1)),
                         [[0, 2, 2, 3, 2], [0, 999], [-3], [0, 1000], [-3]])
        self.assertEqual(ask(*START, run(997))[4], [0, 1000])

    def test_both_at_once(self):
        self.refused(run(1001), -2)
        self.refused(run(FAR), -2)
        self.assertEqual(ask(run(1000), run(1001), run(0), run(-1)), [[0, 1000], [-2], [-2], [-2]])


class Looks(Refused):
    def test_ordinary(self):
        model = Model(TEXT)
        model.warm["o"], model.levels["h"] = 6, 12
        for step in range(3):
            model.step()
        self.assertEqual(ask(*START, *model.look_calls())[4:], model.looks())

    def test_at_first(self):
        model = Model(TEXT)
        self.assertEqual(ask(build(TEXT), *model.look_calls())[1:], model.looks())

    def test_no_such_room(self):
        for number in (0, 3, -1, -2, FAR, -FAR):
            self.refused(temp(number), -1)
            self.refused(trace(number), -1)
        self.assertEqual(ask(temp(1), trace(1)), [[-1], [-1]])

    def test_no_such_link(self):
        for number in (0, 4, -1, -3, FAR, -FAR):
            self.refused(flow(number), -1)
        self.assertEqual(ask(flow(1)), [[-1]])

    def test_books_of_an_empty_building(self):
        self.assertEqual(ask(BOOKS, PRINT), [[0, 0, 0, 0, 0], [0]])

    def test_books_have_a_row_for_each_outside(self):
        for count in range(5):
            text = "".join(f"outside o{i} {i}\n" for i in range(count))
            self.assertEqual(last(build(text), run(5), BOOKS), [0, 0, 0, 0, 0] + [0, 0, 0] * count)


class Set(Refused):
    def test_ordinary(self):
        model = Model(TEXT)
        model.set_weather([6, -12, 12, 0])
        for step in range(3):
            model.step()
        model.set_room(2, -77)
        self.assertEqual(ask(*START, set_room(2, -77), *model.look_calls())[4:], [[0]] + model.looks())
        for step in range(4):
            model.step()
        self.assertEqual(ask(*START, set_room(2, -77), run(4), *model.look_calls())[4:], [[0], [0, 7]] + model.looks())

    def test_given_and_gone_begin_anew_and_all_else_stays(self):
        looks = [CLOCK, PRINT, temp(1), trace(1)]
        plain, given = ask(*START, *looks), ask(*START, BOOKS)[-1]
        self.assertNotIn(0, given[4:])
        got = ask(*START, set_room(2, -3), *looks, BOOKS)
        self.assertEqual(got[5], [0, 3, 6, -12, 12, 0])
        self.assertEqual([got[5], got[6], got[7]], plain[4:7])
        self.assertEqual(got[-1][4:], [0] * 7)
        self.assertEqual(got[8][3], plain[7][3])

    def test_they_begin_anew_even_if_it_is_so_warm_already(self):
        text = "room a 0 8\nroom b 0 0\noutside o 8\nlink a o 32\nlink b o 32\nheater h b 3\n"
        self.assertEqual(ask(build(text), heat(1, 3), run(1), BOOKS, set_room(1, 8), BOOKS, run(1), BOOKS)[3::2],
                         [[0, 15, 0, 15, 3, -4, 0, 1000000003], [0, 15, 0, 15, 0, 0, 0, 0],
                          [0, 18, 1, 37, 3, -1, 1, 1000000006]])

    def test_before_any_step_and_again_and_again(self):
        text = "room a 1 8\noutside o 0\nlink a o 32\n"
        self.assertEqual(ask(build(text), set_room(1, 100), set_room(1, -4), temp(1), BOOKS, run(1), set_room(1, 12),
                             temp(1), run(1), temp(1), set_room(1, 7), temp(1), BOOKS)[3:],
                         [[0, -4, 0, 1000000003], [0, -8, 0, 999999999, 0, 0, 0, 0], [0, 1], [0], [0, 12, 0, 12],
                          [0, 2], [0, 9, 0, 9], [0], [0, 7, 0, 7], [0, 14, 0, 14, 0, 0, 0, 0]])

    def test_behind_many_steps(self):
        model = Model(TEXT)
        for step in range(300):
            model.step()
        model.set_room(1, 100000)
        for step in range(3):
            model.step()
        self.assertEqual(ask(build(TEXT), run(300), set_room(1, 100000), run(3), *model.look_calls())[4:],
                         model.looks())

    def test_a_building_told_anew_knows_nothing_of_it(self):
        fresh = ask(build(TEXT), *LOOKS)
        self.assertEqual(ask(*START, set_room(1, 5), build(TEXT), *LOOKS)[5:], fresh)

    def test_edges_of_the_temperature(self):
        self.assertEqual(ask(build(TEXT), set_room(1, 100000), temp(1), set_room(1, -100000), temp(1))[1:],
                         [[0], [0, 100000, 0, 100000], [0], [0, -100000, 0, 999900007]])

    def test_no_such_room(self):
        for number in (0, 3, -1, -2, FAR, -FAR):
            self.refused(set_room(number, 0), -1)
        self.assertEqual(ask(set_room(1, 0)), [[-1]])

    def test_no_such_temperature(self):
        for temperature in (100001, -100001, FAR, -FAR):
            self.refused(set_room(2, temperature), -2)

    def test_both_at_once(self):
        for number in (0, 3, -FAR):
            for temperature in (100001, -FAR):
                self.refused(set_room(number, temperature), -1)


class Clock(Refused):
    def test_ordinary(self):
        calls = [build(TEXT), CLOCK, outside(2, -77), heat(1, 30), heat(2, 4), run(3), CLOCK, outside(1, 9), run(5),
                 heat(1, 1), CLOCK, build(TEXT), CLOCK]
        self.assertEqual([answer for call, answer in zip(calls, ask(*calls)) if call == CLOCK],
                         [[0, 0, 5, -12, 0, 0], [0, 3, 5, -77, 30, 4], [0, 8, 9, -77, 1, 4], [0, 0, 5, -12, 0, 0]])

    def test_outsides_and_heaters_in_their_order(self):
        text = "room a 0 1\noutside p 7\nheater i a 5\noutside o 8\nheater h a 5\n"
        self.assertEqual(last(build(text), heat(1, 2), heat(2, 3), CLOCK), [0, 0, 7, 8, 2, 3])

    def test_with_little_there(self):
        self.assertEqual(ask(CLOCK, run(7), CLOCK, build("outside o -4\n"), CLOCK, build("room a 0 1\nheater h a 1\n"),
                             CLOCK, run(1000), CLOCK)[::2],
                         [[0, 0], [0, 7], [0, 0, -4], [0, 0, 0], [0, 1000, 0]])

    def test_a_refused_call_is_not_seen_in_it(self):
        for call in (run(998), run(0), heat(1, 31), outside(1, 100001), set_room(1, 100001), settle(0, 1001)):
            self.assertEqual(last(*START, call, CLOCK), [0, 3, 6, -12, 12, 0])

    def test_it_changes_nothing(self):
        self.assertEqual(self.unchanged(CLOCK), [0, 3, 6, -12, 12, 0])


class TheList(unittest.TestCase):
    AHEAD = [REST, settle(1, 9), halve(9), bracket(3, [0, 0, 1, 1], [1, 1, 2, 2]), latest(1, 5, 9), least(1, 1, 5),
             set_room(1, 4), CLOCK, bracket(1, [], [1] * 20)]

    def test_each_answer_has_its_length_ahead_of_it(self):
        text = "room a 0 3\n"
        self.assertEqual(answers(flat([build(text), PRINT, temp(1), temp(2), run(1), run(1001), build("x"), BOOKS])),
                         [5, 0, 1, 0, 0, 0, 12, 0] + list(text.encode()) + [4, 0, 3, 0, 3, 1, -1, 2, 0, 1, 1, -2,
                                                                             3, 1, 1, 1, 5, 0, 3, 0, 3, 0])

    def test_the_list_handed_in_is_unchanged(self):
        calls = flat(START + [build("room z 0 1\nx\n"), heat(9, 9)] + LOOKS + self.AHEAD)
        before = list(calls)
        answers(calls)
        self.assertEqual(calls, before)

    def test_the_same_list_gives_the_same_answer(self):
        calls = flat(START + LOOKS + self.AHEAD)
        first = answers(calls)
        self.assertEqual(answers(calls), first)
        self.assertEqual(answers(flat([PRINT, CLOCK, REST])), [1, 0, 2, 0, 0, 1, 0])
        self.assertEqual(answers(calls), first)

    def test_what_is_given_back_is_a_list_of_its_own(self):
        calls = flat([build(TEXT), PRINT])
        first = answers(calls)
        kept = list(first)
        first.append(1)
        self.assertEqual(answers(calls), kept)

    def test_all_answers_are_whole_numbers(self):
        row = answers(flat(START + self.AHEAD + [temp(9), run(0), run(1000), build("x")] + LOOKS))
        self.assertIs(type(row), list)
        for number in row:
            self.assertIs(type(number), int)

    def test_each_new_call_has_its_length_ahead_of_its_answer(self):
        self.assertEqual(answers(flat([build("room a 0 1\noutside o 4\nlink o a 64\nheater h a 3\n"), *self.AHEAD[:3],
                                       bracket(1, [1, 0], [2, 3]), *self.AHEAD[4:]])),
                         [5, 0, 1, 1, 1, 1, 3, 0, 4000000, 1, 3, 0, 1, 1, 3, 0, 1, 1, 3, 0, 1000000, 5000000, 2, 0, 8,
                          2, 0, 1, 1, 0, 4, 0, 0, 4, 0, 1, -2])

    def test_any_call_may_come_first(self):
        for call, due in ((PRINT, [0]), (outside(1, 0), [-1]), (heat(1, 0), [-1]), (run(2), [0, 2]), (temp(1), [-1]),
                          (trace(1), [-1]), (BOOKS, [0, 0, 0, 0, 0]), (flow(1), [-1]), (REST, [0]),
                          (settle(0, 0), [0, 1, 0]), (halve(0), [0, 1, 0]), (bracket(9, [], []), [0]),
                          (latest(1, 0, 0), [-1]), (least(1, 1, 0), [-1]), (set_room(1, 0), [-1]), (CLOCK, [0, 0])):
            self.assertEqual(ask(call, CLOCK)[0], due)

    def test_two_hundred_calls(self):
        self.assertEqual(ask(*[run(5)] * 200), [[0, 5 * i] for i in range(1, 201)])

    def test_a_text_of_four_thousand_bytes(self):
        self.assertEqual(ask(build("\n" * 4000), build("a" * 4000), build(bytes([255]) * 3999 + b"\n")),
                         [[1, 1, 1], [1, 1, 1], [1, 1, 1]])


if __name__ == "__main__":
    unittest.main()
