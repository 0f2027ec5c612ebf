"""What stands at a place, in the field or beyond its sides, and what a window holds."""


def is_inside(field, i, j):
    return 0 <= i < len(field) and 0 <= j < len(field[0])


def brought_inside(rule, place, length):
    # Reckoned, not walked: places may lie very far away.
    if rule == "near":
        return min(max(place, 0), length - 1)
    if rule == "turned":
        # The side's cell comes twice, so that there and back again is just two lengths.
        there = place % (2 * length)
        return min(there, 2 * length - 1 - there)
    return place % length


def stands_at(field, rule, i, j):
    if is_inside(field, i, j):
        return (field[i][j],)
    if rule == "there":
        return ()
    if isinstance(rule, tuple):
        return (rule[1],)
    row = field[brought_inside(rule, i, len(field))]
    return (row[brought_inside(rule, j, len(row))],)


def places_around(place, ahead, behind):
    return list(range(place - ahead, place + behind + 1))


def window_cells(field, window, rule, i, j):
    columns = places_around(j, window[2], window[3])
    cells = []
    for row in places_around(i, window[0], window[1]):
        for column in columns:
            cells.extend(stands_at(field, rule, row, column))
    return tuple(cells)
