"""A field filtered by a window that slides over it, there and back, and how many numbers come in and go out."""

from midwindow.cells.windows import places_around, stands_at
from midwindow.ranks.plain import place_by_share, without_holes
from midwindow.ranks.tallies import Tally


def path(height, width):
    places = []
    for i in range(height):
        columns = list(range(width))
        if i % 2 == 1:
            columns.reverse()
        places.extend([(i, j) for j in columns])
    return places


def area_held(window, place):
    rows = places_around(place[0], window[0], window[1])
    columns = places_around(place[1], window[2], window[3])
    return (rows, columns)


def not_in(places, others):
    return [place for place in places if place not in others]


def area_beyond(area, other):
    # A step goes along the rows or along the columns, never both, so what is left over is one area too.
    if area[0] == other[0]:
        return (area[0], not_in(area[1], other[1]))
    return (not_in(area[0], other[0]), area[1])


def steps(height, width, window):
    """For each place in turn: the place, the area that comes in there, the area that goes out."""
    taken = []
    # Ahead of the first place nothing is held, so all that it holds comes in.
    old = ([], [])
    for place in path(height, width):
        new = area_held(window, place)
        taken.append((place, area_beyond(new, old), area_beyond(old, new)))
        old = new
    return taken


def numbers_at(field, rule, area):
    numbers = []
    for i in area[0]:
        for j in area[1]:
            numbers.extend(without_holes(stands_at(field, rule, i, j)))
    return numbers


def kinds_of(field, rule):
    cells = []
    for row in field:
        cells.extend(row)
    if isinstance(rule, tuple):
        cells.append(rule[1])
    return without_holes(cells)


def told_of(tally, share):
    how_many = tally.how_many_in()
    if how_many == 0:
        return None
    return tally.nth_in(place_by_share(how_many, share))


def slid(field, window, rule, share):
    tally = Tally(kinds_of(field, rule))
    told = [list(row) for row in field]
    moved = 0
    for place, area_in, area_out in steps(len(field), len(field[0]), window):
        coming = numbers_at(field, rule, area_in)
        going = numbers_at(field, rule, area_out)
        for number in coming:
            tally.put_in(number)
        for number in going:
            tally.take_out(number)
        moved += len(coming) + len(going)
        told[place[0]][place[1]] = told_of(tally, share)
    return (tuple([tuple(row) for row in told]), moved)


def how_many_inside(places, length):
    return len([place for place in places if 0 <= place < length])


def how_many_at(height, width, rule, area):
    if rule == "there" or rule == ("told", None):
        return how_many_inside(area[0], height) * how_many_inside(area[1], width)
    return len(area[0]) * len(area[1])


def moves(height, width, window, rule):
    moved = 0
    for place, area_in, area_out in steps(height, width, window):
        moved += how_many_at(height, width, rule, area_in)
        moved += how_many_at(height, width, rule, area_out)
    return moved
