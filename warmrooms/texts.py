"""Reads a building's text, or tells its first wrong line and why it is wrong."""

from warmrooms.plan import HOTTEST, MOST_CAP, MOST_CONDUCTANCE, MOST_HEAT
from warmrooms.plan import MOST_HEATERS, MOST_LINKS, MOST_OUTSIDES, MOST_ROOMS

RIGHT = 0
BAD_FORM = 1
NAME_TAKEN = 2
NAME_MISSING = 3
TOO_MANY = 4
BAD_LINK = 5
UNSTEADY = 6

SIGNS = "abcdefghijklmnopqrstuvwxyz0123456789- \n"
STRANGE = "?"
LONGEST_NAME = 12
MOST_DIGITS = 7


def signs_of(text):
    """The bytes as signs: what stands in no right line becomes a sign of its own kind."""
    signs = {}
    for sign in SIGNS:
        signs[ord(sign)] = sign
    return "".join([signs.get(byte, STRANGE) for byte in text])


def is_name(word):
    # signs_of lets no other letters through than small ones
    return word.isalnum() and word[0].isalpha() and len(word) <= LONGEST_NAME


def is_number(word, least, most):
    """Whether the word is a number from least to most, in the one way it may be written."""
    digits = word
    if least < 0 and word.startswith("-"):
        digits = word[1:]
    if not digits.isdigit() or len(digits) > MOST_DIGITS:
        return False
    if digits.startswith("0") and word != "0":
        return False
    return least <= int(word) <= most


def is_temperature(word):
    return is_number(word, -HOTTEST, HOTTEST)


def take_room(plan, words):
    if len(words) != 4 or not is_name(words[1]):
        return BAD_FORM
    if not is_number(words[2], 0, MOST_CAP) or not is_temperature(words[3]):
        return BAD_FORM
    if words[1] in plan.all_names():
        return NAME_TAKEN
    if len(plan.rooms) == MOST_ROOMS:
        return TOO_MANY
    plan.rooms.append((words[1], int(words[2]), int(words[3])))
    return RIGHT


def take_outside(plan, words):
    if len(words) != 3 or not is_name(words[1]) or not is_temperature(words[2]):
        return BAD_FORM
    if words[1] in plan.all_names():
        return NAME_TAKEN
    if len(plan.outsides) == MOST_OUTSIDES:
        return TOO_MANY
    plan.outsides.append((words[1], int(words[2])))
    return RIGHT


def is_bad_link(plan, first, second):
    rooms = plan.room_names()
    if first not in rooms and second not in rooms:
        return True
    return first == second or plan.are_linked(first, second)


def take_link(plan, words):
    if len(words) != 4 or not is_name(words[1]) or not is_name(words[2]):
        return BAD_FORM
    if not is_number(words[3], 1, MOST_CONDUCTANCE):
        return BAD_FORM
    ends = plan.end_names()
    if words[1] not in ends or words[2] not in ends:
        return NAME_MISSING
    if len(plan.links) == MOST_LINKS:
        return TOO_MANY
    if is_bad_link(plan, words[1], words[2]):
        return BAD_LINK
    plan.links.append((words[1], words[2], int(words[3])))
    return RIGHT


def take_heater(plan, words):
    if len(words) != 4 or not is_name(words[1]) or not is_name(words[2]):
        return BAD_FORM
    if not is_number(words[3], 1, MOST_HEAT):
        return BAD_FORM
    if words[1] in plan.all_names():
        return NAME_TAKEN
    if words[2] not in plan.room_names():
        return NAME_MISSING
    if len(plan.heaters) == MOST_HEATERS:
        return TOO_MANY
    plan.heaters.append((words[1], words[2], int(words[3])))
    return RIGHT


def take_line(plan, line):
    """Puts what the line tells into the plan; why the line is wrong, or RIGHT."""
    words = line.split(" ")
    if words[0] == "room":
        return take_room(plan, words)
    if words[0] == "outside":
        return take_outside(plan, words)
    if words[0] == "link":
        return take_link(plan, words)
    if words[0] == "heater":
        return take_heater(plan, words)
    return BAD_FORM


def take_text(plan, text):
    """Puts the text into a plan that is empty.

    Gives back an empty list or, if the text is wrong, which line (or room) is
    wrong and why; then the plan isn't to be used.
    """
    lines = signs_of(text).split("\n")
    if lines[-1] != "":
        return [len(lines), BAD_FORM]
    number = 0
    for line in lines[:-1]:
        number += 1
        why = take_line(plan, line)
        if why != RIGHT:
            return [number, why]
    unsteady = plan.first_unsteady()
    if unsteady > 0:
        return [unsteady, UNSTEADY]
    return []
