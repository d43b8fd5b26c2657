"""Texts: the form of each line, which wrong line is told and why, and how a building is printed."""

import unittest

from tests.asking import BOOKS, PRINT, ask, build, heat, last, outside, run, temp


def rooms(count, cap=10):
    return "".join(f"room r{i} {cap} {i}\n" for i in range(1, count + 1))


def outsides(count):
    return "".join(f"outside o{i} {i}\n" for i in range(1, count + 1))


def heaters(count, room="r1"):
    return "".join(f"heater h{i} {room} {i}\n" for i in range(1, count + 1))


def links(count, of=12):
    pairs = [(i, j) for i in range(1, of + 1) for j in range(i + 1, of + 1)]
    return "".join(f"link r{i} r{j} 1\n" for i, j in pairs[:count])


class TextCase(unittest.TestCase):
    def right(self, text, *counts):
        self.assertEqual(last(build(text)), [0] + list(counts), text)

    def wrong(self, text, place, why):
        self.assertEqual(last(build(text)), [1, place, why], text)

    def wrong_line(self, before, line, why):
        """The line is the wrong one behind lines that are right."""
        self.assertEqual(last(build(before))[0], 0, before)
        self.wrong(before + line + "\n", before.count("\n") + 1, why)


class OrdinaryTexts(TextCase):
    def test_each_kind_of_line(self):
        self.right("room hall 3 20\n", 1, 0, 0, 0)
        self.right("outside yard -5\n", 0, 1, 0, 0)
        self.right("room hall 3 20\noutside yard -5\nlink hall yard 16\n", 1, 1, 1, 0)
        self.right("room hall 3 20\nheater stove hall 50\n", 1, 0, 0, 1)

    def test_kinds_of_lines_in_any_order(self):
        self.right("outside y 0\nroom a 3 1\nlink y a 1\nheater s a 5\nroom b 3 2\n"
                   "heater t b 6\nlink b a 2\noutside z 1\nlink z b 3\n", 2, 2, 3, 2)

    def test_the_empty_text(self):
        self.right("", 0, 0, 0, 0)
        self.assertEqual(ask(build("room a 0 1\n"), build(""), PRINT, temp(1)),
                         [[0, 1, 0, 0, 0], [0, 0, 0, 0, 0], [0], [-1]])

    def test_the_first_wrong_line_is_told(self):
        self.wrong("room a 0 1\nroom a 0 1\nnonsense\n", 2, 2)
        self.wrong("nonsense\nroom a 0 1\nroom a 0 1\n", 1, 1)

    def test_words_of_lines_may_be_names(self):
        self.right("room room 1 0\noutside outside 0\nlink room outside 1\nheater link room 1\n", 1, 1, 1, 1)


class TextsThatDontEnd(TextCase):
    def test_a_last_line_without_its_end(self):
        self.wrong("room a 0 1", 1, 1)
        self.wrong("room a 0 1\nroom b 0 1", 2, 1)
        self.wrong(" ", 1, 1)

    def test_it_comes_before_all_others(self):
        self.wrong("nonsense\nroom a 0 1\nroom b 0 1", 3, 1)
        self.wrong("room a 0 1\nroom a 0 1\nroom b 0 1", 3, 1)
        self.wrong("room a 0 1\nroom b 0 1\nlink a b 65\n ", 4, 1)


class Forms(TextCase):
    def test_other_words(self):
        for line in ("", "nonsense", "rooms a 0 1", "Room a 0 1", "ROOM a 0 1", "room", "link", "outside",
                     "heater", "roo a 0 1", "walls a 0 1"):
            self.wrong_line("", line, 1)

    def test_too_few_and_too_many_words(self):
        before = "room a 3 1\nroom b 3 1\n"
        for line in ("room c 3", "room c 3 1 1", "outside c", "outside c 1 1", "link a b", "link a b 1 1",
                     "heater c a", "heater c a 1 1"):
            self.wrong_line(before, line, 1)

    def test_blanks(self):
        before = "room a 3 1\nroom b 3 1\n"
        for line in ("room c 3 1", "outside c 1", "link a b 1", "heater c a 1"):
            self.assertEqual(last(build(before + line + "\n"))[0], 0, line)
            for place, sign in enumerate(line):
                if sign == " ":
                    self.wrong_line(before, line[:place] + " " + line[place:], 1)
                    self.wrong_line(before, line[:place] + "\t" + line[place + 1:], 1)
                    self.wrong_line(before, line[:place] + line[place + 1:], 1)
            self.wrong_line(before, line + " ", 1)
            self.wrong_line(before, " " + line, 1)
            self.wrong_line(before, line + "\r", 1)

    def test_names_at_their_edges(self):
        for name in ("a", "z", "a0", "z9", "abcdefghijkl", "a12345678901", "room"):
            self.right(f"room {name} 0 1\n", 1, 0, 0, 0)
            self.right(f"outside {name} 1\n", 0, 1, 0, 0)
            self.right(f"room q 0 1\nheater {name} q 1\n", 1, 0, 0, 1)
            self.right(f"room {name} 1 1\noutside q 1\nlink {name} q 1\n", 1, 1, 1, 0)
            self.right(f"room {name} 1 1\noutside q 1\nlink q {name} 1\n", 1, 1, 1, 0)

    def test_names_out_of_form(self):
        for name in ("abcdefghijklm", "0", "0a", "9z", "A", "aB", "a-", "-a", "a_b", "a.", "\xe4", "a\xe4", "a\x00",
                     "a\xb2", "`", "{", "a/", "a:"):
            before = "room q 3 1\nroom p 3 1\n"
            self.wrong_line(before, f"room {name} 0 1", 1)
            self.wrong_line(before, f"outside {name} 1", 1)
            self.wrong_line(before, f"link {name} q 1", 1)
            self.wrong_line(before, f"link q {name} 1", 1)
            self.wrong_line(before, f"heater {name} q 1", 1)
            self.wrong_line(before, f"heater h {name} 1", 1)

    def test_every_single_byte_as_a_name(self):
        for byte in range(256):
            text = b"room " + bytes([byte]) + b" 0 1\n"
            if 97 <= byte <= 122:
                self.assertEqual(last(build(text)), [0, 1, 0, 0, 0], byte)
            else:
                self.assertEqual(last(build(text)), [1, 1, 1], byte)

    def test_every_byte_behind_a_digit(self):
        for byte in range(256):
            text = b"outside a 1" + bytes([byte]) + b"\n"
            if 48 <= byte <= 57:
                self.assertEqual(last(build(text)), [0, 0, 1, 0, 0], byte)
            elif byte == 10:
                self.assertEqual(last(build(text)), [1, 2, 1], byte)
            else:
                self.assertEqual(last(build(text)), [1, 1, 1], byte)

    def test_numbers_out_of_form(self):
        before = "room q 3 1\nroom p 3 1\n"
        for number in ("", "-", "00", "01", "-0", "+1", "1-", "1.0", "1e1", "0x1", "a", "1_0", "\xb2", "00000001",
                       "0000001", "10000000", "99999999"):
            self.wrong_line(before, f"room c {number} 1", 1)
            self.wrong_line(before, f"room c 3 {number}", 1)
            self.wrong_line(before, f"outside c {number}", 1)
            self.wrong_line(before, f"link p q {number}", 1)
            self.wrong_line(before, f"heater c q {number}", 1)

    def test_negative_numbers_out_of_form(self):
        for number in ("--1", "-00", "-01", "-1-", "- 1", "-10000000", "-0000001", "-+1"):
            self.wrong_line("", f"room c 3 {number}", 1)
            self.wrong_line("", f"outside c {number}", 1)

    def test_numbers_in_form_but_out_of_range(self):
        before = "room q 3 1\nroom p 3 1\n"
        for line in ("room c 3 9999999", "room c 3 -9999999", "outside c 9999999", "outside c -9999999",
                     "room c 9999999 1", "link q p 9999999", "heater c q 9999999"):
            self.wrong_line(before, line, 1)

    def test_ranges_of_caps(self):
        self.right("room a 0 1\n", 1, 0, 0, 0)
        self.right("room a 10 1\n", 1, 0, 0, 0)
        self.wrong_line("", "room a 11 1", 1)
        self.wrong_line("", "room a -1 1", 1)

    def test_ranges_of_temperatures(self):
        for number in (-100000, -99999, -1, 0, 1, 100000):
            self.right(f"room a 0 {number}\n", 1, 0, 0, 0)
            self.right(f"outside a {number}\n", 0, 1, 0, 0)
        for number in (-100001, 100001):
            self.wrong_line("", f"room a 0 {number}", 1)
            self.wrong_line("", f"outside a {number}", 1)

    def test_ranges_of_conductances(self):
        before = "room a 10 1\nroom b 10 1\n"
        self.right(before + "link a b 1\n", 2, 0, 1, 0)
        self.wrong_line(before, "link a b 0", 1)
        self.wrong_line(before, "link a b -1", 1)
        self.wrong_line(before, "link a b 100001", 1)
        # a link that great is right of itself, but no room can be steady with it
        self.wrong(before + "link a b 100000\n", 1, 6)

    def test_ranges_of_heaters(self):
        before = "room a 0 1\n"
        self.right(before + "heater h a 1\n", 1, 0, 0, 1)
        self.right(before + "heater h a 1000000\n", 1, 0, 0, 1)
        self.wrong_line(before, "heater h a 0", 1)
        self.wrong_line(before, "heater h a -1", 1)
        self.wrong_line(before, "heater h a 1000001", 1)


class Names(TextCase):
    BEFORE = "room a 3 1\nroom b 3 1\noutside o 1\noutside p 1\nheater h a 1\n"

    def test_names_that_are_there(self):
        for name in ("a", "b", "o", "p", "h"):
            self.wrong_line(self.BEFORE, f"room {name} 3 1", 2)
            self.wrong_line(self.BEFORE, f"outside {name} 1", 2)
            self.wrong_line(self.BEFORE, f"heater {name} a 1", 2)

    def test_names_that_are_not_there(self):
        for name in ("c", "aa", "h"):
            self.wrong_line(self.BEFORE, f"link {name} a 1", 3)
            self.wrong_line(self.BEFORE, f"link a {name} 1", 3)
        for name in ("c", "h", "o"):
            self.wrong_line(self.BEFORE, f"heater g {name} 1", 3)

    def test_names_told_too_late(self):
        self.wrong("room a 3 1\nlink a b 1\nroom b 3 1\n", 2, 3)
        self.wrong("room a 3 1\nlink o a 1\noutside o 1\n", 2, 3)
        self.wrong("heater h a 1\nroom a 3 1\n", 1, 3)

    def test_a_heater_in_itself(self):
        self.wrong_line(self.BEFORE, "heater g g 1", 3)

    def test_links_that_cant_be(self):
        before = self.BEFORE + "link a b 1\nlink o a 1\n"
        for line in ("link a a 1", "link o o 1", "link o p 1", "link a b 1", "link b a 2", "link a o 1", "link o a 1"):
            self.wrong_line(before, line, 5)
        self.right(before + "link b o 1\nlink p a 1\n", 2, 2, 4, 1)


class Counts(TextCase):
    def test_twelve_rooms_and_one_more(self):
        self.right(rooms(12), 12, 0, 0, 0)
        self.wrong_line(rooms(12), "room x 0 1", 4)

    def test_four_outsides_and_one_more(self):
        self.right(outsides(4), 0, 4, 0, 0)
        self.wrong_line(outsides(4), "outside x 1", 4)

    def test_forty_links_and_one_more(self):
        self.right(rooms(12) + links(40), 12, 0, 40, 0)
        self.wrong_line(rooms(12) + links(40), "link r11 r12 1", 4)

    def test_eight_heaters_and_one_more(self):
        self.right(rooms(1) + heaters(8), 1, 0, 0, 8)
        self.wrong_line(rooms(1) + heaters(8), "heater x r1 1", 4)

    def test_all_of_them_at_once(self):
        text = rooms(12) + outsides(4) + links(36) + heaters(8)
        text += "link r1 o1 1\nlink r1 o2 1\nlink o3 r1 1\nlink r1 o4 1\n"
        self.right(text, 12, 4, 40, 8)


class ReasonsDueAtOnce(TextCase):
    def test_rooms(self):
        full = rooms(12)
        self.wrong_line(full, "room r1 11 1", 1)
        self.wrong_line(full, "room r1 10 1", 2)
        self.wrong_line(rooms(1), "room r1 10 x", 1)

    def test_outsides(self):
        full = outsides(4)
        self.wrong_line(full, "outside o1 100001", 1)
        self.wrong_line(full, "outside o1 1", 2)
        self.wrong_line(full, "outside x 01", 1)

    def test_heaters(self):
        full = rooms(1) + heaters(8)
        self.wrong_line(full, "heater h1 x 0", 1)
        self.wrong_line(full, "heater h1 x 1", 2)
        self.wrong_line(full, "heater h1 r1 1", 2)
        self.wrong_line(full, "heater r1 r1 1", 2)
        self.wrong_line(full, "heater x y 0", 1)
        self.wrong_line(full, "heater x y 1", 3)
        self.wrong_line(full, "heater x r1 1000001", 1)
        self.wrong_line(rooms(1) + heaters(1), "heater h1 x 1", 2)

    def test_links(self):
        full = rooms(12) + outsides(2) + links(40)
        self.wrong_line(full, "link x x 0", 1)
        self.wrong_line(full, "link x x 1", 3)
        self.wrong_line(full, "link r1 x 1", 3)
        self.wrong_line(full, "link r1 r2 0", 1)
        for line in ("link r1 r1 1", "link o1 o1 1", "link o1 o2 1", "link r1 r2 1", "link r2 r1 1"):
            self.wrong_line(full, line, 4)
        few = rooms(12) + links(39)
        self.wrong_line(few, "link r1 r1 1", 5)
        self.wrong_line(few, "link r1 r1 0", 1)
        self.wrong_line(few, "link x x 1", 3)

    def test_a_wrong_line_comes_before_a_room_that_isnt_steady(self):
        self.wrong("room a 0 1\noutside o 1\nlink a o 65\nroom a 0 1\n", 4, 2)


class Steady(TextCase):
    def test_just_steady_and_just_not(self):
        for cap in range(11):
            load = 64 * 2 ** cap
            before = f"room a {cap} 1\noutside o 1\n"
            self.right(before + f"link a o {load}\n", 1, 1, 1, 0)
            self.wrong(before + f"link a o {load + 1}\n", 1, 6)

    def test_loads_add_up_from_both_ends(self):
        before = "room b 10 0\nroom a 0 1\noutside o 1\noutside p 1\n"
        self.right(before + "link a o 30\nlink p a 30\nlink b a 4\n", 2, 2, 3, 0)
        self.wrong(before + "link a o 30\nlink p a 30\nlink b a 5\n", 2, 6)
        self.wrong(before + "link a o 30\nlink p a 30\nlink a b 5\n", 2, 6)

    def test_the_first_such_room_is_told(self):
        before = "outside o 0\nroom c 10 0\nroom a 0 1\nroom b 0 1\n"
        self.wrong(before + "link b o 65\nlink a o 65\n", 2, 6)
        self.wrong(before + "link b o 65\nlink a o 64\n", 3, 6)
        self.wrong(before + "link c b 65\n", 3, 6)

    def test_heaters_have_no_share_in_it(self):
        self.right("room a 0 1\noutside o 1\nlink a o 64\nheater h a 1000000\n", 1, 1, 1, 1)


class WrongTextsChangeNothing(TextCase):
    def test_the_building_before_is_as_it_was(self):
        text = "room a 1 1\nroom b 2 3\noutside o 7\nlink a o 5\nlink a b 6\nheater h b 9\n"
        before = [build(text), outside(1, -3), heat(1, 4), run(5)]
        after = [PRINT, temp(1), temp(2), BOOKS, [6, 1], [6, 2], [8, 1], [8, 2], run(1), BOOKS, run(995), run(994)]
        plain = ask(*before, *after)
        for wrong in ("x", "room q 0 5\nx\n", "room a 0 5\nroom a 0 5\n", "heater h a 1\n", rooms(13),
                      "room a 0 5\nlink a a 1\n", "room z 0 9\noutside y 1\nlink z y 65\n"):
            mixed = ask(*before, build(wrong), *after)
            self.assertEqual(mixed[4][0], 1)
            self.assertEqual(mixed[:4] + mixed[5:], plain, wrong)

    def test_a_wrong_text_leaves_no_names_behind(self):
        right = build("room a 0 1\noutside b 2\n")
        self.assertEqual(ask(build("room a 0 1\nroom a 0 1\n"), right), [[1, 2, 2], [0, 1, 1, 0, 0]])


class Printing(TextCase):
    def printed(self, text, *calls):
        answer = ask(build(text), *calls, PRINT)[-1]
        self.assertEqual(answer[0], 0)
        return bytes(answer[1:]).decode("ascii")

    def test_before_a_building_is_told(self):
        self.assertEqual(ask(PRINT), [[0]])

    def test_rooms_outsides_links_heaters_in_order(self):
        text = ("outside y -9\nroom b 3 -1\nlink y b 1\nheater t b 5\nroom a 4 100000\n"
                "heater s a 1000000\nlink b a 2\noutside x 0\nlink a x 3\n")
        self.assertEqual(self.printed(text),
                         "room b 3 -1\nroom a 4 100000\noutside y -9\noutside x 0\n"
                         "link y b 1\nlink b a 2\nlink a x 3\nheater t b 5\nheater s a 1000000\n")

    def test_a_printed_building_built_again_prints_the_same(self):
        for text in ("", "room a 0 0\n", "outside o -1\n", "outside y -9\nroom b 3 -1\nlink y b 1\nheater t b 5\n",
                     rooms(12) + outsides(4) + links(40) + heaters(8, "r12")):
            once = self.printed(text)
            self.assertEqual(self.printed(once), once)
            self.assertEqual(sorted(once.splitlines()), sorted(text.splitlines()))
            self.assertEqual(last(build(once)), last(build(text)))

    def test_it_is_printed_as_it_was_at_first(self):
        text = "room a 1 10\noutside o 5\nlink o a 7\nheater h a 9\n"
        self.assertEqual(self.printed(text, outside(1, 99), heat(1, 8), run(17)), text)

    def test_printing_changes_nothing(self):
        text = "room a 1 10\noutside o 5\nlink o a 7\nheater h a 9\n"
        calls = [build(text), outside(1, 99), heat(1, 8), run(17)]
        self.assertEqual(last(*calls, PRINT, PRINT, BOOKS), last(*calls, BOOKS))

    def test_the_longest_text(self):
        name = "abcdefghijk"
        text = "".join(f"room {name}{chr(97 + i)} 10 -100000\n" for i in range(12))
        pairs = [(i, j) for i in range(12) for j in range(i)][:40]
        text += "".join(f"link {name}{chr(97 + i)} {name}{chr(97 + j)} 5957\n" for i, j in pairs)
        text += "".join(f"heater h{name[:-1]}{i} {name}a 1000000\n" for i in range(8))
        self.assertLessEqual(len(text), 4000)
        self.assertEqual(self.printed(text), text)


if __name__ == "__main__":
    unittest.main()
