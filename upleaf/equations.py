"""Rows of unknowns, each so often, that come to nought: {unknown: number}, no number in them being nought."""


def common_factor(numbers):
    """The greatest number that goes into each of these."""
    factor = 0
    for number in numbers:
        rest = abs(number)
        while rest > 0:
            factor, rest = rest, factor % rest
        if factor == 1:
            return 1
    return factor


def shortened(row):
    """The row by the greatest number that goes into all of it."""
    factor = common_factor(list(row.values()))
    if factor < 2:
        return row
    return {unknown: number // factor for unknown, number in row.items()}


def cleared(row, other, unknown):
    """Both rows mixed so that the unknown, which both have, is gone."""
    factor = common_factor([row[unknown], other[unknown]])
    times = other[unknown] // factor
    less = row[unknown] // factor
    mixed = {own: number * times for own, number in row.items()}
    for own, number in other.items():
        left = mixed.get(own, 0) - number * less
        if left == 0:
            del mixed[own]
        else:
            mixed[own] = left
    return shortened(mixed)


def solved(rows):
    """Rows that say the same, each by an unknown that no other one of them has."""
    done = {}
    for row in rows:
        left = row
        for unknown in row:
            if unknown in done:
                left = cleared(left, done[unknown], unknown)
        if not left:
            continue
        # Rows told by an unknown of a small number keep small numbers.
        chosen = min(list(left), key=lambda own: abs(left[own]))
        for unknown in list(done):
            if chosen in done[unknown]:
                done[unknown] = cleared(done[unknown], left, chosen)
        done[chosen] = left
    return done


def free_beside(done, unknown):
    """An unknown that no row tells and on which this one hangs, maybe itself; None where it is nought."""
    if unknown not in done:
        return unknown
    others = [other for other in done[unknown] if other != unknown]
    return others[0] if others else None


def solution(rows, unknown):
    """Numbers of unknowns, the others being nought, by which all rows hold and this one isn't nought; or None."""
    done = solved(rows)
    free = free_beside(done, unknown)
    if free is None:
        return None
    hanging = [own for own in done if free in done[own]]
    whole = 1
    for own in hanging:
        each = done[own][own]
        each //= common_factor([each, done[own][free]])
        whole *= each // common_factor([whole, each])
    numbers = {own: -done[own][free] * whole // done[own][own] for own in hanging}
    numbers[free] = whole
    return numbers
