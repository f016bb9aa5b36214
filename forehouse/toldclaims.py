"""CLAIMS that are told by what is KNOWN, and rows that are reached."""

from forehouse.bounds import greatest_of_claim, least_of_claim, sure_claimed
from forehouse.fairlines import rows_by
from forehouse.known import mean_of_claim, sure_known
from forehouse.limits import reached_by


def told_by(known, claim):
    """A HOLDING that shows that a CLAIM is told, or None."""
    fair, holding = greatest_of_claim(known, claim)
    least = least_of_claim(known, claim)[0]
    if mean_of_claim(known, fair, claim) != mean_of_claim(known, least, claim):
        return None
    # Its COST is the one MEAN of all, so beyond the CLAIM it PAYS nothing on a reached row.
    return holding


def is_told(known, claim):
    known, claim = sure_claimed(known, claim)
    return told_by(known, claim) is not None


def reached(known):
    known = sure_known(known)
    return tuple([row for row, done in zip(rows_by(known), reached_by(known)) if done])


def replica(known, claim):
    known, claim = sure_claimed(known, claim)
    return told_by(known, claim)
