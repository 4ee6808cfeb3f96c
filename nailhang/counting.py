"""Rows: how often a row of nails stands in a cord."""

from nailhang.cords import short_form


def piece_numbers(turns, most):
    # How often 0, 1, .. most times the nail stand in one piece. Each division leaves no rest:
    # so many whole numbers side by side have a product that 1 * 2 * .. * count divides.
    numbers = [1]
    for count in range(1, most + 1):
        numbers.append(numbers[-1] * (turns - count + 1) // count)
    return numbers


def stretches_of(row):
    # For each place: how many like nails stand side by side up to there.
    lengths = []
    for place in range(len(row)):
        if place > 0 and row[place] == row[place - 1]:
            lengths.append(lengths[-1] + 1)
        else:
            lengths.append(1)
    return lengths


def cuts_by_nail(row, stretches):
    # For each nail all pairs (length, count) such that the row's beginning of that length
    # ends with so many of that nail; the longest beginning first.
    cuts = {}
    for place in range(len(row) - 1, -1, -1):
        for count in range(1, stretches[place] + 1):
            cuts.setdefault(row[place], []).append((place + 1, count))
    return cuts


def add_piece(numbers, cuts, single):
    # The longest beginning comes first, so the numbers of the shorter ones,
    # which it is reckoned from, are still those of the cord without this piece.
    for length, count in cuts:
        numbers[length] = numbers[length] + single[count] * numbers[length - count]


def times_in(row, cord):
    # numbers[k] tells how often the row's beginning of k nails stands in the cord so far.
    numbers = [1] + [0] * len(row)
    stretches = stretches_of(row)
    cuts = cuts_by_nail(row, stretches)
    longest = max(stretches, default=0)
    for nail, turns in short_form(cord):
        if nail in cuts:
            add_piece(numbers, cuts[nail], piece_numbers(turns, longest))
    return numbers[len(row)]


def add_longer_rows(longer, rows, tail, times):
    # Rows that come to 0 are dropped at once: cords that undo themselves stay small so.
    for row, number in rows.items():
        total = longer.get(row + tail, 0) + number * times
        if total == 0:
            longer.pop(row + tail, 0)
        else:
            longer[row + tail] = total


def add_piece_to_rows(tables, nail, turns):
    # The longest rows come first, so none is made longer by this piece twice.
    most = len(tables) - 1
    single = piece_numbers(turns, most)
    for length in range(most - 1, -1, -1):
        for count in range(1, most - length + 1):
            if single[count] != 0:
                add_longer_rows(tables[length + count], tables[length], nail * count, single[count])


def rows_in(cord, length):
    # tables[k] tells the numbers of the rows of k nails.
    tables = [{"": 1}] + [{} for count in range(length)]
    for nail, turns in short_form(cord):
        add_piece_to_rows(tables, nail, turns)
    return sorted(tables[length].items())
