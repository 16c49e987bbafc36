"""The desk: a gated family and a wish that are changed step by step and back."""

from turnlots.away import within
from turnlots.bonds import bonds
from turnlots.book import book
from turnlots.bothways import works_both_ways
from turnlots.breaks import needs_gated
from turnlots.checks import lot_of
from turnlots.critical import critical
from turnlots.depths import deepest
from turnlots.errors import EmptyDesk, NotHanded
from turnlots.even import is_even
from turnlots.full import is_full
from turnlots.glue import Glue
from turnlots.merges import join, merge
from turnlots.partings import finest
from turnlots.small import forget, grown, in_of, out_of
from turnlots.wishes import Wish, wish_of


def without_number(wish, thing):
    """The Wish without the number of the thing."""
    numbers = [number for place, number in enumerate(wish.numbers) if place != thing]
    return Wish(*numbers)


class Desk:
    """A gated family and a wish of its size, and the deeds that led to them."""

    def __init__(self, family):
        needs_gated(family)
        numbers = [0 for _ in range(family.size)]
        # What the desk holds after each deed, with the word of this deed; at first without one. This
        # tuple never changes; it stands in a list, so that a Trial can put an earlier one back.
        self._held = [(((), family, Wish(*numbers)),)]

    @property
    def family_now(self):
        """The family that the desk holds."""
        return self._held[0][-1][1]

    @property
    def wish_now(self):
        """The Wish that the desk holds."""
        return self._held[0][-1][2]

    @property
    def many(self):
        """The number of the deeds that have not been taken back."""
        return len(self._held[0]) - 1

    def _note(self, word, family, wish):
        """Notes a deed and what it leads to, and returns the family."""
        self._held[0] = self._held[0] + ((word, family, wish),)
        return family

    def turn(self, lot):
        """Turns the family by the lot."""
        row = lot_of(lot, self.family_now.size)
        return self._note(("turn", row), self.family_now ^ row, self.wish_now)

    def hold(self, thing):
        """Holds the thing in."""
        family = in_of(self.family_now, thing)
        return self._note(("hold", thing), family, without_number(self.wish_now, thing))

    def leave(self, thing):
        """Leaves the thing out."""
        family = out_of(self.family_now, thing)
        return self._note(("leave", thing), family, without_number(self.wish_now, thing))

    def drop(self, thing):
        """Forgets the thing."""
        family = forget(self.family_now, thing)
        return self._note(("drop", thing), family, without_number(self.wish_now, thing))

    def merge_two(self, u, v):
        """Merges the two things."""
        family = merge(self.family_now, u, v)
        return self._note(("merge_two", u, v), family, without_number(self.wish_now, max(u, v)))

    def join_with(self, other):
        """Joins the family with another gated family."""
        family = join(self.family_now, other)
        needs_gated(other)
        return self._note(("join_with", other), family, self.wish_now)

    def glue_in(self, link, other, other_link):
        """Glues the family at the thing link and the other family at the thing other_link."""
        glue = Glue(self.family_now, link, other, other_link)
        numbers = list(without_number(self.wish_now, link)) + [0 for _ in range(glue.right_size)]
        return self._note(("glue_in", link, other, other_link), glue.family, Wish(*numbers))

    def grow(self, thing):
        """Puts in a new thing as the given one, in each lot and in none."""
        family = grown(self.family_now, thing)
        numbers = list(self.wish_now)
        numbers.insert(thing, 0)
        return self._note(("grow", thing), family, Wish(*numbers))

    def widen(self):
        """Takes in all lots of things that are just outside."""
        return self._note(("widen",), within(self.family_now, 1), self.wish_now)

    def want(self, wish):
        """Replaces the wish."""
        asked = wish_of(wish, self.family_now.size)
        return self._note(("want", asked.numbers), self.family_now, asked)

    def back(self):
        """Takes the last deed back, and returns the family that the desk holds then."""
        if self.many == 0:
            raise NotHanded() from EmptyDesk()
        self._held[0] = self._held[0][:-1]
        return self.family_now

    def deeds(self):
        """The tuple of the words of the deeds that have not been taken back, oldest first."""
        return tuple([word for word, _, _ in self._held[0][1:]])

    def best(self):
        """The lot in which the book ends."""
        return book(self.family_now, self.wish_now)

    def criticals(self):
        """The tuple of the critical wishes of all things, None for a fixed thing."""
        family = self.family_now
        return tuple([critical(family, self.wish_now, thing) for thing in range(family.size)])

    def part_lots(self):
        """The tuple of the parts of the family."""
        return finest(self.family_now)

    def report(self):
        """What can be said of the family in a word or a number, a dict."""
        family = self.family_now
        return {
            "size": family.size,
            "lots": len(family.lots),
            "even": is_even(family),
            "both": works_both_ways(family),
            "full": is_full(family),
            "depth": deepest(family),
            "parts": len(finest(family)),
            "bonds": len(bonds(family)),
        }
