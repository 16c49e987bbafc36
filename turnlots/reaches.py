"""Met tables and the four rules that tell which of them belong to gated families."""

from turnlots.checks import check_size, is_int
from turnlots.errors import BadTable, BrokenMet, TooMany
from turnlots.families import Family
from turnlots.masks import lot_from, ordered_masks
from turnlots.met import Pair, met, signed_pair


def check_small(size):
    """Raises an error unless the size is that of a family of at most 6 things."""
    if check_size(size) > 6:
        raise TooMany("things")


def all_pairs(size):
    """The list of all signed pairs of size things."""
    check_small(size)
    masks = ordered_masks(size)
    return [
        Pair(lot_from(wanted), lot_from(unwanted))
        for wanted in masks for unwanted in masks if not wanted & unwanted
    ]


def all_keys(size):
    """The keys of a met table, in their order."""
    return [(pair.wanted, pair.unwanted) for pair in all_pairs(size)]


def met_table(family):
    """The numbers met of all signed pairs, a dict."""
    return {(pair.wanted, pair.unwanted): met(family, pair) for pair in all_pairs(family.size)}


def check_table(size, table):
    """Raises an error unless the table has just the keys of its size, with integers."""
    keys = all_keys(size)
    if not isinstance(table, dict):
        raise BadTable(-1)
    if len(table) != len(keys) or not all([key in table and is_int(table[key]) for key in keys]):
        raise BadTable(0)


def with_signed(key, thing):
    """The key with a signed thing put in: x is wanted, -1 - x is unwanted."""
    wanted, unwanted = key
    if thing >= 0:
        return tuple(sorted(wanted + (thing,))), unwanted
    return wanted, tuple(sorted(unwanted + (-1 - thing,)))


def free_things(size, key):
    """The things that are not in the pair of the key."""
    return [thing for thing in range(size) if thing not in key[0] and thing not in key[1]]


def step_break(size, table, key):
    """The signed thing of the first breach of rule 2 at the pair, None if there is none."""
    for x in free_things(size, key):
        for s in (x, -1 - x):
            if table[with_signed(key, s)] - table[key] not in (0, 1):
                return (s,)
    return None


def bend_break(size, table, key):
    """The signed things of the first breach of rule 3 at the pair, None if there is none."""
    free = free_things(size, key)
    for place, x in enumerate(free):
        for y in free[place + 1:]:
            for s, t in ((x, y), (x, -1 - y), (-1 - x, y), (-1 - x, -1 - y)):
                one, two = with_signed(key, s), with_signed(key, t)
                if table[one] + table[two] < table[key] + table[with_signed(one, t)]:
                    return s, t
    return None


def sign_break(size, table, key):
    """The thing of the first breach of rule 4 at the pair, None if there is none."""
    for x in free_things(size, key):
        if table[with_signed(key, x)] + table[with_signed(key, -1 - x)] < 2 * table[key] + 1:
            return (x,)
    return None


def break_at(rule, size, table, key):
    """The things of the first breach of the rule at the pair, None if there is none."""
    if rule == 2:
        return step_break(size, table, key)
    if rule == 3:
        return bend_break(size, table, key)
    return sign_break(size, table, key)


def broken_met(size, table):
    """The first breach of a met table, None if there is none."""
    check_table(size, table)
    if table[((), ())] != 0:
        return 1, (), (), ()
    keys = all_keys(size)
    for rule in (2, 3, 4):
        for key in keys:
            things = break_at(rule, size, table, key)
            if things is not None:
                return rule, key[0], key[1], things
    return None


def family_of_met(size, table):
    """The family of a met table without a breach."""
    breach = broken_met(size, table)
    if breach is not None:
        raise BrokenMet(breach[0])
    things = (1 << size) - 1
    return Family(size, [
        lot_from(mask) for mask in ordered_masks(size)
        if table[(lot_from(mask), lot_from(things ^ mask))] == size
    ])


def reach_of(size, table, pair):
    """The reach of a pair by a met table, whose rules are not looked at."""
    check_table(size, table)
    asked = signed_pair(pair, size)
    return table[(asked.wanted, asked.unwanted)] - len(asked.unwanted)
