"""Meetings: desks that tell each other all letters that they have heard."""

from whyblank.errors import InvalidSize
from whyblank.kinds import is_number, is_tuple_of
from whyblank.tallies import merged


def need_meets(many, meets):
    """Raises `InvalidSize` for something that is no pair of unlike numbers of so many desks."""
    for meet in meets:
        if not is_tuple_of(meet, 2) or not is_number(meet[0]) or not is_number(meet[1]):
            raise InvalidSize("meets")
        if meet[0] == meet[1] or max(meet) >= many:
            raise InvalidSize("meets")


def after_meetings(tallies, meets):
    """The tallies of all desks behind all meetings."""
    if not all([tally.form == tallies[0].form for tally in tallies]):
        raise InvalidSize("form")
    need_meets(len(tallies), meets)
    kept = list(tallies)
    for one, other in meets:
        both = merged(kept[one], kept[other])
        kept[one] = both
        kept[other] = both
    return tuple(kept)


def heard_from(many, meets):
    """For each of so many desks the desks from which a row of meetings leads to it, itself among them."""
    need_meets(many, meets)
    reached_from = [(desk,) for desk in range(many)]
    for one, other in meets:
        both = tuple(sorted(set(reached_from[one]) | set(reached_from[other])))
        reached_from[one] = both
        reached_from[other] = both
    return tuple(reached_from)
