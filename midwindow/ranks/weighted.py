"""Fields filtered by a window whose cells count so often each."""

from midwindow.cells.windows import places_around, stands_at
from midwindow.ranks.plain import place_by_share, without_holes


def counts_at(field, window, counts, rule, i, j):
    """How often each number counts in the window at a place; those that count at all."""
    often = {}
    columns = places_around(j, window[2], window[3])
    for row, row_counts in zip(places_around(i, window[0], window[1]), counts):
        for column, count in zip(columns, row_counts):
            for number in without_holes(stands_at(field, rule, row, column)):
                if count > 0:
                    often[number] = often.get(number, 0) + count
    return often


def told_of_counts(often, share):
    # A cell may count 99 times, so the numbers are not written out as often as they count.
    left = place_by_share(sum(often.values()), share)
    for number in sorted(often):
        if left < often[number]:
            return number
        left -= often[number]
    return None


def weighted(field, window, counts, rule, share):
    rows = []
    for i in range(len(field)):
        row = []
        for j in range(len(field[i])):
            row.append(told_of_counts(counts_at(field, window, counts, rule, i, j), share))
        rows.append(tuple(row))
    return tuple(rows)
