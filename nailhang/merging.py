"""Merging: all ways in which two rows become one."""


def add_ways(ways, rows, nail):
    for row, number in rows.items():
        ways[row + nail] = ways.get(row + nail, 0) + number


def next_merged(merged, nail, second):
    # merged tells for each beginning of the second row how it merges with the nails
    # of the first row so far; told is the same with one nail of the first row more.
    told = [{}]
    add_ways(told[0], merged[0], nail)
    for place, other in enumerate(second):
        ways = {}
        add_ways(ways, merged[place + 1], nail)
        add_ways(ways, told[place], other)
        if nail == other:
            add_ways(ways, merged[place], nail)
        told.append(ways)
    return told


def merged_rows(row, second):
    merged = [{second[:length]: 1} for length in range(len(second) + 1)]
    for nail in row:
        merged = next_merged(merged, nail, second)
    return sorted(merged[len(second)].items())
