"""Fields filtered again and again, and fields closed and opened."""

from midwindow.ranks.plain import filtered

LEAST = (0, 1)
GREATEST = (1, 1)


def come_again(field, times, ring):
    if ring == 1:
        return ("still", field, times)
    return ("round", field, times, ring)


def again(field, window, rule, share, most):
    now = field
    # The first field that comes again settles it: from there on all goes round in that ring.
    times_of = {now: 0}
    for times in range(1, most + 1):
        now = filtered(now, window, rule, share)
        if now in times_of:
            return come_again(now, times_of[now], times - times_of[now])
        times_of[now] = times
    return ("open", now)


def turned_over(window):
    return (window[1], window[0], window[3], window[2])


def there_and_back(field, window, first, second):
    # Turned over, a window at a place holds just the places whose own windows held it the first time.
    return filtered(filtered(field, window, "there", first), turned_over(window), "there", second)


def closed(field, window):
    return there_and_back(field, window, GREATEST, LEAST)


def opened(field, window):
    return there_and_back(field, window, LEAST, GREATEST)
