"""Texts of numbers, fours, ways, points, tables and settings, shown and read."""

from hangrings.errors import NoText
from hangrings.reckon import common_divisor

FIGURES = "0123456789"
MOST_FIGURES = 1500


def show_row(numbers):
    return " ".join([str(number) for number in numbers])


def show_number(fraction):
    if fraction[1] == 1:
        return str(fraction[0])
    return str(fraction[0]) + "/" + str(fraction[1])


def show_four(four):
    return show_row(four)


def show_way(way):
    return show_row(way)


def show_point(point):
    return " ".join([show_number(fraction) for fraction in point])


def show_table(table):
    return "; ".join([show_point(row) for row in table])


def show_setting(setting):
    return str(setting[0]) + ":" + str(setting[1])


def most_figures(numbers):
    return max([len(str(abs(number))) for number in numbers])


# Asked ahead of making a number of it: what else Python takes for one isn't
# written so, and very long rows of figures it doesn't take at all.
def is_whole_text(text):
    figures = text[1:] if text.startswith("-") else text
    if len(figures) == 0 or len(figures) > MOST_FIGURES:
        return False
    if not all([sign in FIGURES for sign in figures]):
        return False
    return figures[0] != "0" or text == "0"


def read_whole(text):
    if not is_whole_text(text):
        raise NoText("this is no whole number's text")
    return int(text)


def parts_of(text, between, many):
    parts = text.split(between)
    if len(parts) != many:
        raise NoText("these are too few or too many parts")
    return parts


def read_number(text):
    if "/" not in text:
        return (read_whole(text), 1)
    parts = parts_of(text, "/", 2)
    top = read_whole(parts[0])
    bottom = read_whole(parts[1])
    if bottom < 2 or common_divisor((top, bottom)) != 1:
        raise NoText("this fraction is written otherwise")
    return (top, bottom)


def read_row(text, between, many):
    numbers = tuple([read_whole(part) for part in parts_of(text, between, many)])
    if not any(numbers):
        raise NoText("these are noughts alone")
    return numbers


def read_four(text):
    return read_row(text, " ", 4)


def read_way(text):
    return read_row(text, " ", 3)


def read_point(text):
    return tuple([read_number(part) for part in parts_of(text, " ", 3)])


def read_table(text):
    return tuple([read_point(part) for part in parts_of(text, "; ", 3)])


def read_setting(text):
    return read_row(text, ":", 2)
