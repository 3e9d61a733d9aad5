"""First motions of a card, and papers that tell which of its patches are held."""

from upleaf.equations import free_beside, solution, solved
from upleaf.errors import NoPatch
from upleaf.patches import FLOOR, WALL, patches
from upleaf.rings import rings


def pairs_of_rings(card):
    return [pairs for name, number, at, kind, pairs in rings(card)]


def turning_rows(card):
    """The rings as rows of the patches that may turn at all."""
    return [{patch: number for patch, number in pairs if patch > FLOOR} for pairs in pairs_of_rings(card)]


def motion_rows(card):
    """All that first motions go by: the leaves turn by nought, and so do the rings' sums."""
    return [{WALL: 1}, {FLOOR: 1}, *turning_rows(card)]


def freedom(card):
    """How many first motions there are of which none is mixed of the others."""
    return len(patches(card)) - len(solved(motion_rows(card)))


def stiff(card):
    return freedom(card) == 0


def loose_patches(card):
    """The patches, rising, that some first motion turns."""
    done = solved(motion_rows(card))
    return [patch for patch in range(len(patches(card))) if free_beside(done, patch) is not None]


def check_patch(card, patch):
    if not 0 <= patch < len(patches(card)):
        raise NoPatch("no such patch")


def paper_for(card, patch):
    """A paper for a held patch."""
    rows = turning_rows(card)
    # The paper's times are one unknown more, behind the rings.
    times = len(rows)
    sums = [
        {ring: row[own] for ring, row in enumerate(rows) if own in row}
        for own in range(FLOOR + 1, len(patches(card)))
    ]
    if patch > FLOOR:
        sums[patch - FLOOR - 1][times] = -1
    numbers = solution(sums, times)
    sign = 1 if numbers[times] > 0 else -1
    return abs(numbers[times]), [(ring, sign * numbers[ring]) for ring in sorted(numbers) if ring != times]


def held(card, patch):
    """("held", a paper for the patch), or ("loose", a first motion that turns it)."""
    check_patch(card, patch)
    numbers = solution(motion_rows(card), patch)
    if numbers is None:
        return "held", paper_for(card, patch)
    return "loose", [numbers.get(own, 0) for own in range(len(patches(card)))]


def is_motion(card, turns):
    """Whether the numbers, one for each patch, are a first motion."""
    if len(turns) != len(patches(card)) or turns[WALL] != 0 or turns[FLOOR] != 0:
        return False
    return all([sum([number * turns[patch] for patch, number in pairs]) == 0 for pairs in pairs_of_rings(card)])


def are_rising(numbers):
    return all([low < high for low, high in zip(numbers, numbers[1:])])


def paper_sums(told, rows):
    """What the rings' pairs, each so often, come to for each patch."""
    sums = {}
    for ring, number in rows:
        for patch, many in told[ring]:
            sums[patch] = sums.get(patch, 0) + number * many
    return sums


def is_paper(card, patch, paper):
    """Whether (times, rows) is a paper for the patch."""
    check_patch(card, patch)
    times, rows = paper
    told = pairs_of_rings(card)
    places = [ring for ring, number in rows]
    if times < 1 or not are_rising(places) or not all([0 <= ring < len(told) for ring in places]):
        return False
    sums = paper_sums(told, rows)
    wanted = {patch: times}
    return all([sums.get(own, 0) == wanted.get(own, 0) for own in range(FLOOR + 1, len(patches(card)))])
