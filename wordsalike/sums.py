"""Sums of multiples of members of masks, reckoned bit by bit with carries."""

from wordsalike.masks import Mask
from wordsalike.words import is_integer


def _choices(terms, place):
    """A list of (bits, total): the bits at a place that the masks allow, and the factors times them."""
    choices = [((), 0)]
    for factor, mask in terms:
        allowed = [bit for bit in (0, 1) if mask.least >> place & 1 <= bit <= mask.greatest >> place & 1]
        choices = [((*bits, bit), total + factor * bit) for bits, total in choices for bit in allowed]
    return choices


def _totals(terms, number, place):
    """A list of what can be added to a carry at a place, each once."""
    bit = number >> place & 1
    return sorted(set([bit + total for _, total in _choices(terms, place)]))


def _carry_sets(terms, number):
    """A list with the ascending tuple of the carries at each place."""
    width = terms[0][1].width
    found = [(0,)]
    for place in range(width - 1):
        totals = _totals(terms, number, place)
        carries = found[place]
        above = sorted(set([(carry + total) >> 1 for carry in carries for total in totals]))
        found.append(tuple(above))
    return found


def _reached_bits(terms, number, carries, place):
    """A list of the bits that the result can have at a place."""
    return sorted(set([(carry + total) & 1 for carry in carries for total in _totals(terms, number, place)]))


def sum_mask(terms, number):
    """The narrowest mask of the results of a sum of factors times members, and a number."""
    least = 0
    greatest = 0
    for place, carries in enumerate(_carry_sets(terms, number)):
        bits = _reached_bits(terms, number, carries, place)
        least = least | bits[0] << place
        greatest = greatest | bits[-1] << place
    return Mask(terms[0][1].width, least, greatest)


def _open_places(mask):
    """A list of the places of the signs ?, from bit 0 up."""
    return [place for place in range(mask.width) if (mask.least ^ mask.greatest) >> place & 1 == 1]


def _origins(terms, number):
    """A list with a dict for each place from each carry there to (carry, bits) at the place below."""
    found = [{0: None}]
    for place in range(terms[0][1].width - 1):
        bit = number >> place & 1
        origins = {}
        for carry in found[place]:
            for bits, total in _choices(terms, place):
                origins[(carry + bit + total) >> 1] = (carry, bits)
        found.append(origins)
    return found


def _with_bits(members, bits, place):
    """The members with these bits added at a place."""
    return [member + (bit << place) for member, bit in zip(members, bits)]


def _members_to(terms, origins, place, carry, bits):
    """A tuple of members that lead to a carry at a place, with these bits there."""
    # Above the place, all open bits are 0.
    members = [mask.least >> (place + 1) << (place + 1) for _, mask in terms]
    members = _with_bits(members, bits, place)
    for lower in reversed(range(place)):
        carry, bits = origins[lower + 1][carry]
        members = _with_bits(members, bits, lower)
    return tuple(members)


def _pair_at(terms, number, origins, place):
    """A pair of tuples of members whose results differ in the bit at a place that is open."""
    bit = number >> place & 1
    reached = {}
    for carry in origins[place]:
        for bits, total in _choices(terms, place):
            reached[(carry + bit + total) & 1] = (carry, bits)
    return tuple([_members_to(terms, origins, place, carry, bits) for carry, bits in (reached[0], reached[1])])


def sum_paper(terms, number):
    """A paper which shows that sum_mask is the narrowest mask of the results."""
    origins = _origins(terms, number)
    places = _open_places(sum_mask(terms, number))
    pairs = [_pair_at(terms, number, origins, place) for place in places]
    return (tuple(_carry_sets(terms, number)), tuple(pairs))


def _is_ascending(value):
    """Whether any value is an ascending tuple of integers."""
    if not isinstance(value, tuple) or not all([is_integer(carry) for carry in value]):
        return False
    return all([value[at] < value[at + 1] for at in range(len(value) - 1)])


def _row_holds(terms, number, mask, rows, place):
    """Whether all bits at a place, with the carries told for it, give what the mask and the rows tell."""
    above = {carry: True for carry in rows[place + 1]} if place + 1 < mask.width else None
    allowed = (mask.least >> place & 1, mask.greatest >> place & 1)
    totals = _totals(terms, number, place)
    for carry in rows[place]:
        for total in totals:
            if (carry + total) & 1 not in allowed:
                return False
            if above is not None and (carry + total) >> 1 not in above:
                return False
    return True


def _rows_hold(terms, number, mask, rows):
    """Whether any value is the first part of a paper for a mask."""
    if not isinstance(rows, tuple) or len(rows) != mask.width:
        return False
    if not all([_is_ascending(row) for row in rows]) or 0 not in rows[0]:
        return False
    return all([_row_holds(terms, number, mask, rows, place) for place in range(mask.width)])


def _are_members(terms, value):
    """Whether any value is a tuple with a member of the mask of each term."""
    if not isinstance(value, tuple) or len(value) != len(terms):
        return False
    return all([member in mask for member, (_, mask) in zip(value, terms)])


def _pair_holds(terms, number, value, place):
    """Whether any value is a pair of tuples of members whose results differ at a place."""
    if not isinstance(value, tuple) or len(value) != 2:
        return False
    if not all([_are_members(terms, members) for members in value]):
        return False
    results = [number + sum([factor * member for member, (factor, _) in zip(members, terms)]) for members in value]
    return (results[0] ^ results[1]) >> place & 1 == 1


def sum_paper_holds(terms, number, mask, value):
    """Whether any value is a paper for a mask."""
    if not isinstance(value, tuple) or len(value) != 2:
        return False
    rows, pairs = value
    places = _open_places(mask)
    if not isinstance(pairs, tuple) or len(pairs) != len(places):
        return False
    if not all([_pair_holds(terms, number, pair, place) for pair, place in zip(pairs, places)]):
        return False
    return _rows_hold(terms, number, mask, rows)
