"""Counts of numbers, kept while numbers are put in and taken out."""

from midwindow.errors import NoNumber, NoPlace


class Tally:
    def __init__(self, kinds):
        # The kinds are laid down rising once, and a dict keeps that order: so no question has to sort.
        self.often = {}
        for kind in sorted(set(kinds)):
            self.often[kind] = 0

    def put_in(self, number):
        if number not in self.often:
            raise NoNumber(number)
        self.often[number] += 1

    def take_out(self, number):
        if self.often.get(number, 0) == 0:
            raise NoNumber(number)
        self.often[number] -= 1

    def how_many_in(self):
        return sum(self.often.values())

    def nth_in(self, place):
        so_far = 0
        for kind, often in self.often.items():
            so_far += often
            if 0 <= place < so_far:
                return kind
        raise NoPlace("the tally has no number at this place")

    def how_many_below(self, number):
        return sum([often for kind, often in self.often.items() if kind < number])
