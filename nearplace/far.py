"""Long rows: the rule by which the counts of a reach go on, and counts far along."""

from nearplace.orders import check_reach
from nearplace.stands import check_number, first_stand, steps_table
from nearplace.walks import row_walks

MOST_FAR = 2000
MOST_REST = 10 ** 18
MOST_BOUND = 10 ** 12


def counts_to(many, reach):
    """How many orders of no things, of one thing, and so on to so many things keep the reach."""
    first = first_stand(reach)
    # Each row of the longest walks tells the ways of those with so many places as are left there.
    return [row[first] for row in reversed(row_walks(many, reach).rows)]


def common(one, other):
    """The greatest number that goes into both."""
    while other:
        one, other = other, one % other
    return one


def lowered(numbers):
    """The numbers, not all 0, without what goes into all of them: else they would grow with each step."""
    factor = 0
    for number in numbers:
        factor = common(factor, abs(number))
    return [number // factor for number in numbers]


def without_lead(row, other, lead):
    """The row with 0 at the lead, by taking the other row from it as often as is needed."""
    return lowered([other[lead] * number - row[lead] * less for number, less in zip(row, other)])


def lead_of(row):
    """Where the first number that is not 0 stands."""
    return [at for at, number in enumerate(row) if number][0]


def next_row(windows, kept):
    """The next window, brought to 0 at the leads of those ahead of it, and behind it how often each one was taken."""
    own = len(kept)
    # The tally goes through the same steps as the window, so it tells what came of them.
    row = windows[own] + [1 if at == own else 0 for at in range(len(windows))]
    for lead, other in kept:
        row = without_lead(row, other, lead)
    return row


def shortest_mix(windows):
    """How often each of the first few windows is taken so that they come to nothing, of as few as can be."""
    width = len(windows[0])
    kept = []
    row = next_row(windows, kept)
    while any(row[:width]):
        kept.append((lead_of(row), row))
        row = next_row(windows, kept)
    return row[width:width + len(kept) + 1]


def shortest_rule(counts, width):
    """The shortest rule of counts that keep some rule of the length width; two times as many counts are handed in."""
    # As they keep that rule, a mix of windows of its width that comes to nothing does so all along.
    *ahead, last = shortest_mix([counts[at:at + width] for at in range(width + 1)])
    # The last goes into each other number: where whole numbers keep a rule, the shortest one is of whole numbers.
    return [-number // last for number in reversed(ahead)]


def rule_of(reach):
    check_reach(reach)
    # What is counted by so many stands keeps a rule of that length, though perhaps not the shortest.
    width = len(steps_table(reach, first_stand(reach)))
    return shortest_rule(counts_to(2 * width - 1, reach), width)


def far_count(many, reach):
    check_reach(reach)
    check_number(many, 0, MOST_FAR)
    rule = rule_of(reach)
    counts = counts_to(len(rule) - 1, reach)
    while len(counts) <= many:
        counts.append(sum([times * counts[-back] for back, times in enumerate(rule, start=1)]))
    return counts[many]


def brought_down(powers, rule, bound):
    """As many powers as the rule is long that stand for these: each higher one is by the rule a sum of lower ones."""
    lower = [number % bound for number in powers]
    while len(lower) > len(rule):
        top = lower.pop()
        for back, times in enumerate(rule, start=1):
            lower[-back] = (lower[-back] + top * times) % bound
    return lower


def multiplied(one, other):
    powers = [0] * (len(one) + len(other) - 1)
    for at, number in enumerate(one):
        for more, times in enumerate(other):
            powers[at + more] += number * times
    return powers


def power_far(many, rule, bound):
    """The power with the number many, brought down by the rule."""
    powers = [1]
    for at in reversed(range(many.bit_length())):
        powers = brought_down(multiplied(powers, powers), rule, bound)
        if many >> at & 1:
            powers = brought_down([0] + powers, rule, bound)
    return powers


def count_rest(many, reach, bound):
    check_reach(reach)
    check_number(many, 0, MOST_REST)
    check_number(bound, 1, MOST_BOUND)
    rule = rule_of(reach)
    counts = counts_to(len(rule) - 1, reach)
    # The power with a number stands for the count of so many things, as both go on by the same rule.
    powers = power_far(many, rule, bound)
    return sum([number * count for number, count in zip(powers, counts)]) % bound
