"""Relations between the 18 standings, as lists of masks.

A mask is an integer whose bit k is set for the standing with the index k; a relation
has one mask for each standing: of those to which it leads.
"""

from lyingstandins.fields import can_pass, standings

MANY = 18
# The mask of all 18 standings.
EVERYWHERE = (1 << 18) - 1


def mask_of(flags):
    """The mask of the indexes at which the flags are true."""
    mask = 0
    for at, flag in enumerate(flags):
        if flag:
            mask = mask | 1 << at
    return mask


def bits(mask):
    """The indexes that are in the mask, ascending."""
    return [at for at in range(mask.bit_length()) if mask >> at & 1]


def passing():
    """The relation that leads from each standing to those into which it can pass."""
    places = standings()
    return [mask_of([can_pass(before, after) for after in places]) for before in places]


def image(relation, mask):
    """The mask of the standings to which the relation leads from those in the mask."""
    led = 0
    for at in bits(mask):
        led = led | relation[at]
    return led


def composed(first, second):
    """The relation that leads wherever first and then second leads."""
    return [image(second, mask) for mask in first]


def united(relations):
    """The relation that leads wherever one of the relations leads."""
    rows = [0] * MANY
    for relation in relations:
        rows = [row | more for row, more in zip(rows, relation)]
    return rows


def origins(relation, after):
    """The mask of the standings from which the relation leads to after."""
    return mask_of([row >> after & 1 for row in relation])
