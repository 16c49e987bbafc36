"""Wishes: one integer for each thing, and the worth of lots by them."""

from turnlots.checks import check_any_number, check_size, check_thing, is_int, is_list, lot_of
from turnlots.errors import BadWish, OtherSize


def check_numbers(numbers):
    """Raises BadWish unless there are one or more numbers and all of them are integers."""
    if len(numbers) == 0:
        raise BadWish(-2)
    for place, number in enumerate(numbers):
        if not is_int(number):
            raise BadWish(place)


def check_alike(wish, other):
    """Raises OtherSize unless the two Wishes are of one length."""
    if len(other.numbers) != len(wish.numbers):
        raise OtherSize(len(other.numbers))


def worth_at(numbers, lot):
    """The worth of the lot by the numbers of the things."""
    return sum([numbers[thing] for thing in lot])


class Wish:
    """One integer for each of one or more things. A Wish never changes."""

    def __init__(self, *numbers):
        check_numbers(numbers)
        self.numbers = numbers

    @classmethod
    def named(cls, size, **more):
        """The wish with the numbers that are given by name, a0 for the thing 0, and 0 for the others."""
        names = [f"a{thing}" for thing in range(check_size(size))]
        if not all([name in names for name in more]):
            raise BadWish(-1)
        numbers = [more.get(name, 0) for name in names]
        return cls(*numbers)

    def __len__(self):
        return len(self.numbers)

    def __iter__(self):
        return iter(self.numbers)

    def __getitem__(self, thing):
        return self.numbers[check_thing(thing, len(self.numbers))]

    def __eq__(self, other):
        return isinstance(other, Wish) and self.numbers == other.numbers

    def __add__(self, other):
        check_alike(self, other)
        sums = [number + more for number, more in zip(self.numbers, other.numbers)]
        return Wish(*sums)

    def __sub__(self, other):
        check_alike(self, other)
        rest = [number - less for number, less in zip(self.numbers, other.numbers)]
        return Wish(*rest)

    def __neg__(self):
        numbers = [-number for number in self.numbers]
        return Wish(*numbers)

    @property
    def greatest(self):
        """The greatest absolute value of a number."""
        return max([abs(number) for number in self.numbers])

    def worth_of(self, lot):
        """The sum of the numbers of the things of the lot."""
        return worth_at(self.numbers, lot_of(lot, len(self.numbers)))

    def times(self, number):
        """The wish with each number multiplied by the number."""
        factor = check_any_number(number, "number")
        numbers = [factor * old for old in self.numbers]
        return Wish(*numbers)

    def put(self, thing, number):
        """The wish with the number of the thing replaced."""
        check_thing(thing, len(self.numbers))
        numbers = list(self.numbers)
        numbers[thing] = check_any_number(number, "number")
        return Wish(*numbers)

    def turned(self, lot):
        """The wish with the signs of the numbers of the things of the lot changed."""
        turn = lot_of(lot, len(self.numbers))
        numbers = [-number if thing in turn else number for thing, number in enumerate(self.numbers)]
        return Wish(*numbers)


def wish_of(wish, size):
    """A Wish equal to a Wish, tuple or list of size numbers."""
    check_size(size)
    numbers = wish.numbers if isinstance(wish, Wish) else wish
    if not is_list(numbers):
        raise BadWish(-1)
    if len(numbers) != size:
        raise BadWish(-2)
    return Wish(*numbers)


def worth(wish, lot, size):
    """The worth of the lot by the wish of size things."""
    return wish_of(wish, size).worth_of(lot)


def wish_for(lot, values):
    """The Wish of the values, with the sign changed at each thing that the lot lacks.

    The worth of another lot is that of this one less the values of the things in which they are apart.
    """
    numbers = [value if thing in lot else -value for thing, value in enumerate(values)]
    return Wish(*numbers)
