"""Witnesses: a row that tells why a cord hangs, a row that tells two cords apart."""

from nailhang.cords import contrary, joined, short_form
from nailhang.counting import times_in


def nails_in_order(runs):
    return "".join([nail for nail, turns in runs])


def row_of(cord):
    return nails_in_order(short_form(cord))


def why_hangs(cord):
    runs = short_form(cord)
    if not runs:
        return None
    product = 1
    for nail, turns in runs:
        product = product * turns
    return (nails_in_order(runs), product)


def longer_end(runs, numbers, length):
    # numbers tells for each place how often the end of one nail less stands in the runs from
    # there on; told is the same for the end of this length. Neighbours in the row are unlike,
    # so no run gives more than one nail of it; and fewer runs than nails give none at all.
    told = [0] * len(numbers)
    nail = runs[-length][0]
    total = 0
    for place in range(len(runs) - length, -1, -1):
        if runs[place][0] == nail:
            total = total + runs[place][1] * numbers[place + 1]
        told[place] = total
    return told


def shortest_end(runs):
    # Each end is reckoned from the one before, as it may take many: at worst only the whole row tells.
    length = 1
    numbers = longer_end(runs, [1] * (len(runs) + 1), length)
    while numbers[0] == 0:
        length = length + 1
        numbers = longer_end(runs, numbers, length)
    return nails_in_order(runs[-length:])


def told_apart(one, other):
    third = short_form(joined(contrary(one), other))
    if not third:
        return None
    row = shortest_end(third)
    return (row, times_in(row, one), times_in(row, other))
