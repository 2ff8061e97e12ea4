"""Ranks: whole numbers from 0 on and "ever", which is greater than each number."""

from fallenbits.patterns import is_whole

EVER = "ever"


def is_rank(thing):
    """Tell whether thing is a rank."""
    return thing == EVER or (is_whole(thing) and thing >= 0)


def not_less(rank, least):
    """Tell whether a rank is at least another one."""
    if rank == EVER or least == EVER:
        return rank == EVER
    return rank >= least


def one_less(rank):
    """Return the rank that must be there behind a change."""
    return EVER if rank == EVER else rank - 1
