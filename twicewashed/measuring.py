"""What the measuring of lengths tells about the quotient of two lengths."""

from itertools import combinations

from twicewashed.lengths import check_numbers, divided
from twicewashed.limits import SHARES_PLACE, inverse, limits_of, product_sum, products, reduced, slack_row, units


def stiff(book):
    """(slots, shares): the findings that hold with equality and the shares that are 1 at all fitting rows."""
    limits = limits_of(list(book), book.shares)
    places = [limit.place for limit in limits if slack_row(limits, limit) is None]
    slots = [place for place in places if place < SHARES_PLACE]
    shares = [place - SHARES_PLACE for place in places if place >= SHARES_PLACE]
    return tuple(slots), tuple(shares)


def tells(book, left, right, *measured):
    """Whether the measured lengths tell the quotient of left and right, and what shows it."""
    check_numbers(book.shares, (left, right, *measured))
    limits = limits_of(list(book), book.shares)
    slack = {limit.place: slack_row(limits, limit) for limit in limits}
    vectors = [length.powers for length in measured] + _stiff_powers(limits, slack)
    made, turn = _made(divided(left, right), vectors)
    if made is None:
        loose = [slack[limit.place] for limit in limits if product_sum(turn, limit.powers) != 0]
        return "untold", turn, tuple(loose)
    times, numbers = made
    behind = len(measured) + SHARES_PLACE
    formula = times, numbers[:len(measured)], numbers[len(measured):behind], numbers[behind:]
    return "told", formula


def lots(book, left, right, menu):
    """All sets with the fewest places in the menu whose lengths together tell the quotient of left and right."""
    check_numbers(book.shares, (left, right, *menu))
    limits = limits_of(list(book), book.shares)
    known = _stiff_powers(limits, {limit.place: slack_row(limits, limit) for limit in limits})
    powers = divided(left, right)
    for many in range(len(menu) + 1):
        found = []
        for places in combinations(range(len(menu)), many):
            made, _ = _made(powers, [menu[place].powers for place in places] + known)
            if made is not None:
                found.append(places)
        if found:
            return found
    return []


def _stiff_powers(limits, slack):
    """The powers of each stiff limit, at its place; zeros at all other places. Slack has their slack rows by place."""
    rows = [(0,) * len(limits[0].powers)] * (SHARES_PLACE + len(limits[0].powers))
    for limit in limits:
        if slack[limit.place] is None:
            rows[limit.place] = limit.powers
    return rows


def _made(powers, vectors):
    """How multiples of the powers are made from the vectors.

    ((times, numbers), None) if times the powers is the sum of the numbers times the vectors. Otherwise (None, turn):
    the turn has the sum 0 with each vector, but not with the powers.
    """
    chosen = _basis(vectors + units(len(powers)))
    times, table = inverse([row for _, row in chosen])
    weights = products(powers, table)
    numbers = [0] * len(vectors)
    for at, (place, _) in enumerate(chosen):
        if place < len(vectors):
            numbers[place] = weights[at]
        elif weights[at] != 0:
            # This column has the sum 0 with all chosen rows but this one, which none of the vectors needs.
            return None, tuple(reduced([line[at] for line in table]))
    times, *numbers = reduced([times, *numbers])
    return (times, tuple(numbers)), None


def _basis(vectors):
    """(place, vector) of the vectors that are no sum of multiples of earlier ones."""
    chosen = []
    for place, vector in enumerate(vectors):
        if _independent([row for _, row in chosen] + [vector]):
            chosen.append((place, vector))
    return chosen


def _independent(rows):
    """Whether none of the rows is a sum of multiples of the others."""
    lines = [list(row) for row in rows]
    while lines:
        head, *rest = lines
        filled = [at for at, number in enumerate(head) if number != 0]
        if not filled:
            return False
        at = filled[0]
        lines = [[head[at] * number - line[at] * its for number, its in zip(line, head)] for line in rest]
    return True
