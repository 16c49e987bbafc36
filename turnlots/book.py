"""Best lots for a wish, the greedy book, and what makes a lot better."""

from turnlots.breaks import find_break
from turnlots.checks import lot_of
from turnlots.families import Family
from turnlots.gates import check_inside
from turnlots.masks import inside_row, mask_of
from turnlots.wishes import wish_for, wish_of, worth_at


def worths(family, wish):
    """The worths of the lots of the family, in the order of the lots."""
    numbers = wish_of(wish, family.size).numbers
    return [worth_at(numbers, lot) for lot in family.lots]


def best_value(family, wish):
    """The greatest worth of a lot of the family."""
    return max(worths(family, wish))


def best_lots(family, wish):
    """The list of the lots of the family with the greatest worth."""
    row = worths(family, wish)
    best = max(row)
    return [lot for lot, worth in zip(family.lots, row) if worth == best]


def best_family(family, wish):
    """The Family of the best lots."""
    return Family(family.size, best_lots(family, wish))


def book_order(numbers):
    """The things in the order in which the book takes them."""
    # negative, so that the greatest absolute value is first and the lesser thing is before its equals
    ranks = sorted([(-abs(number), thing) for thing, number in enumerate(numbers)])
    return [thing for _, thing in ranks]


def book_steps(family, wish):
    """The list of the steps of the book, tuples of a thing, whether it is put in, and a word."""
    numbers = wish_of(wish, family.size).numbers
    left = family.lots
    steps = []
    for thing in book_order(numbers):
        having = [lot for lot in left if thing in lot]
        lacking = [lot for lot in left if thing not in lot]
        is_in = len(having) > 0 if numbers[thing] > 0 else len(lacking) == 0
        steps.append((thing, is_in, "free" if having and lacking else "forced"))
        left = having if is_in else lacking
    return steps


def book(family, wish):
    """The lot in which the book ends."""
    return tuple(sorted([thing for thing, is_in, _ in book_steps(family, wish) if is_in]))


def is_best(family, wish, lot):
    """True if the lot of the family has the greatest worth."""
    asked = wish_of(wish, family.size)
    row = lot_of(lot, family.size)
    check_inside(family, row)
    return asked.worth_of(row) == best_value(family, asked)


def first_gain(inside, mask, gains):
    """The first one or two things whose exchange leads to a lot inside and gains, None if there is none."""
    things = range(len(gains))
    for x in things:
        if gains[x] > 0 and inside[mask ^ (1 << x)]:
            return (x,)
    for x in things:
        for y in things:
            if x < y and gains[x] + gains[y] > 0 and inside[mask ^ (1 << x) ^ (1 << y)]:
                return x, y
    return None


def bettering(family, wish, lot):
    """The first bettering of a lot of the family, None if there is none."""
    numbers = wish_of(wish, family.size).numbers
    row = lot_of(lot, family.size)
    check_inside(family, row)
    gains = [-number if thing in row else number for thing, number in enumerate(numbers)]
    return first_gain(inside_row(family), mask_of(row), gains)


def bookless(family):
    """A Wish whose numbers have different absolute values and for which the book ends in no best
    lot, None if the family is gated.
    """
    found = find_break(family)
    if found is None:
        return None
    inner, other, thing = found
    apart = [x for x in range(family.size) if (x in inner) != (x in other)]
    order = [x for x in range(family.size) if x not in apart] + [thing] + [x for x in apart if x != thing]
    values = [2 * family.size - order.index(x) for x in range(family.size)]
    # The book keeps to inner outside of apart, then exchanges the thing, as other shows that it can.
    # By the break each lot left is then apart from inner in two more things at least, and as no
    # number is twice another one, these cost more than the thing gains.
    values[thing] = -values[thing]
    return wish_for(inner, values)
