"""The share paper of a hall and a rule."""

from shorterline.fractions import fraction_of
from shorterline.turnings import stands_coming, weights_behind


def flows_of(hall, rule, stands):
    """For each stand a list: how much of it a turn leaves at each one, by whole weights."""
    flows = []
    for stand in stands:
        left, words, whole = weights_behind(hall, rule, {stand: 1})
        flows.append([left.get(behind, 0) for behind in stands])
    return flows


def balances_of(flows):
    """A row for each stand but the first one: what goes out of it is what comes in.

    A row has a number for each of these stands, and last what comes from the first stand, whose share is set to 1.
    """
    rows = []
    for at in range(1, len(flows)):
        row = [-flows[other][at] for other in range(1, len(flows))]
        row[at - 1] = sum(flows[at]) - flows[at][at]
        rows.append(row + [flows[0][at]])
    return rows


def reduced(row, head, divisor):
    """A row without its first number, which the head row has taken out of it."""
    return [(head[0] * row[at] - row[0] * head[at]) // divisor for at in range(1, len(row))]


def stepped(rows):
    """The rows as steps, each a number shorter than the one ahead of it; no step's first number may be 0."""
    # Each number is a determinant of the rows, so the divisor of the step ahead always goes off without a rest.
    steps = []
    divisor = 1
    while len(rows) > 0:
        head = rows[0]
        steps.append(head)
        rows = [reduced(row, head, divisor) for row in rows[1:]]
        divisor = head[0]
    return steps


def solved(rows):
    """What rows come to, one for each unknown: the pair (weights, whole), each unknown being its weight / whole.

    A row has a number for each unknown, and last what these times the unknowns are together.
    """
    steps = stepped(rows)
    whole = steps[-1][0]
    weights = []
    for row in reversed(steps):
        known = sum([part * weight for part, weight in zip(row[1:-1], weights)])
        weights = [(whole * row[-1] - known) // row[0]] + weights
    return (weights, whole)


def balanced(flows):
    """A whole weight for each stand, such that a turn leaves all as they are."""
    # The first stand comes from everywhere, so no step's first number is 0.
    weights, first = solved(balances_of(flows))
    return [first] + weights


def shares_of(hall, rule):
    """The share paper, or TooMany where more than sixty stands come."""
    stands = stands_coming(hall, rule)
    weights = balanced(flows_of(hall, rule, stands))
    whole = sum(weights)
    return tuple([(stand, fraction_of(weight, whole)) for stand, weight in zip(stands, weights)])
