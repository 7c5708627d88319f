"""Odd counts: what they show of the partings of a set."""

from facesparted.faces.texts import how_many, set_shown


def evens_less_odds(marks):
    """For each choice of bits the sum of the corners' marks, those with an odd number of chosen ones taken off."""
    if len(marks) == 1:
        return marks
    half = len(marks) // 2
    # The first bit is 0 in the first half of the corners and of the choices, 1 in the other half.
    sums = list(zip(evens_less_odds(marks[:half]), evens_less_odds(marks[half:])))
    return [zeros + ones for zeros, ones in sums] + [zeros - ones for zeros, ones in sums]


def odd_counts(some):
    """For each choice of bits, how many corners have evenly many ones in it, less how many oddly many."""
    return tuple(evens_less_odds([int(mark) for mark in set_shown(some)]))


def shows_none(some, stars):
    """The first choice that shows that no faces with just so many stars part the set, or None."""
    size = how_many("*" * stars)
    for choice, count in enumerate(odd_counts(some)):
        if count % size != 0:
            return choice
    return None


def least_single(some):
    """A bound from below of how many faces without a star each parting of the set has."""
    return abs(odd_counts(some)[-1])
