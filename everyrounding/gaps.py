"""Gaps [28]: where two fair chains with one goal give unlike results, and the claim of a house [29]."""

from everyrounding.chains import chain_cut, check_chain, goal_of, is_fair, run_steps
from everyrounding.checks import check_count
from everyrounding.cuts import check_cut, cut_between, inner_value, is_less, lies_above
from everyrounding.errors import BadChain, BadExact
from everyrounding.formats import count_of, unit_at
from everyrounding.places import check_exact, lowest, place_of, power_of
from everyrounding.values import are_alike, dyadic


def check_house(chain, chain2):
    """Refuse chains that are not fair or have unlike goals."""
    check_chain(chain)
    check_chain(chain2)
    if not is_fair(chain) or not is_fair(chain2) or goal_of(chain) != goal_of(chain2):
        raise BadChain()


def last_power(goal):
    """The power of the greatest numbers of the goal."""
    return goal[2] + goal[0] - 1


def lesser_cut(cut, second):
    """The lesser of two cuts."""
    return second if is_less(second, cut) else cut


def greater_cut(cut, second):
    """The greater of two cuts."""
    return second if is_less(cut, second) else cut


def lies_between(exact, low, high):
    """True if the exact number is above the first cut and below the second."""
    return lies_above(exact, low) and not lies_above(exact, high)


def are_unlike(chain, chain2, exact):
    """True if the two chains give unlike numbers."""
    return not are_alike(run_steps(chain, exact)[0], run_steps(chain2, exact)[0])


def chain_units(chain, chain2, E):
    """The unit powers at the power E of all formats of both chains."""
    return [unit_at(form, E) for form, _ in chain + chain2]


def pulled_free(cut, unit, mode):
    """The cut pulled back through the unit 2^unit and the mode [27]."""
    m, q, side = cut
    i, where = place_of(dyadic(m, q), unit)
    if where > 0 or side == 1:
        i = i + 1
    return cut_between(i - 1, unit, mode)


def free_cut(chain, E, J):
    """The free cut of the chain at J units of its goal, at the power E."""
    goal, mode = chain[-1]
    cut = cut_between(J, unit_at(goal, E), mode)
    for form, before in reversed(chain[:-1]):
        cut = pulled_free(cut, unit_at(form, E), before)
    return cut


def power_gap(chain, chain2, E, first, last):
    """The cuts of a gap: the lesser of the two free cuts at the first J, the greater of the two at the last J."""
    low = lesser_cut(free_cut(chain, E, first), free_cut(chain2, E, first))
    return (low, greater_cut(free_cut(chain, E, last), free_cut(chain2, E, last)))


def power_gaps(chain, chain2, E):
    """The coarsest unit's power at the power E, and the two gaps."""
    coarse = max(chain_units(chain, chain2, E))
    width = 1 << (coarse - unit_at(goal_of(chain), E))
    return (coarse, [power_gap(chain, chain2, E, h * width, (h + 1) * width - 1) for h in range(2)])


def comes(goal, E, coarse, h):
    """True if the gap h counts at the power E, where the coarsest unit is 2^coarse."""
    if h == 0:
        return E > goal[1]
    return E < last_power(goal) or coarse <= E - 2


def least_gap(chain, chain2):
    """The two chains' cuts at rank 0, the lesser first."""
    cut = chain_cut(chain, 0)
    second = chain_cut(chain2, 0)
    return (lesser_cut(cut, second), greater_cut(cut, second))


def house_cut(chain, j):
    """The cut of the chain at rank j, but not beyond the house."""
    p, _, hi = goal_of(chain)
    return lesser_cut(chain_cut(chain, j), (1, hi + p, 0))


def next_step(chain, j, last):
    """The least rank above j and up to the last at which the chain's cut is greater than at j, or last + 1."""
    start = house_cut(chain, j)
    low = j
    high = last + 1
    while high - low > 1:
        middle = (low + high) // 2
        if is_less(start, house_cut(chain, middle)):
            high = middle
        else:
            low = middle
    return high


def span_of_cuts(cuts):
    """The least and the greatest of some cuts."""
    low = cuts[0]
    high = cuts[0]
    for cut in cuts[1:]:
        low = lesser_cut(low, cut)
        high = greater_cut(high, cut)
    return (low, high)


def joined_gaps(gaps):
    """Those of one or two ascending gaps that are not empty; two that touch are one."""
    full = [gap for gap in gaps if is_less(gap[0], gap[1])]
    if len(full) < 2:
        return full
    one, two = full
    if is_less(one[1], two[0]):
        return [one, two]
    return [(one[0], greater_cut(one[1], two[1]))]


def end_gaps(chain, chain2):
    """The gaps between over less the coarsest unit and over."""
    goal = goal_of(chain)
    E = last_power(goal)
    coarse = max(chain_units(chain, chain2, E))
    with_coarse, other = chain, chain2
    if coarse not in [unit_at(form, E) for form, _ in chain]:
        with_coarse, other = chain2, chain
    n = count_of(goal)
    low = n + 1 - (1 << (coarse - goal[2]))
    h = next_step(with_coarse, low, n)
    gaps = [span_of_cuts([house_cut(with_coarse, low), house_cut(other, low), house_cut(other, h - 1)])]
    if h <= n:
        gaps.append(span_of_cuts([house_cut(with_coarse, h), house_cut(other, h), house_cut(other, n)]))
    return joined_gaps(gaps)


def low_gap(chain, chain2):
    """The two cuts between which sizes below least give unlike results, the lesser first."""
    check_house(chain, chain2)
    return least_gap(chain, chain2)


def gaps_at(chain, chain2, E):
    """The power of the coarsest unit at the power E, and the two gaps there."""
    check_house(chain, chain2)
    goal = goal_of(chain)
    check_count(E, goal[1], last_power(goal))
    return power_gaps(chain, chain2, E)


def last_gaps(chain, chain2):
    """The gaps between over less the coarsest unit and over, as tuples of two cuts."""
    check_house(chain, chain2)
    return end_gaps(chain, chain2)


def gap_empty(cut, second):
    """True if no number lies above the first cut and below the second."""
    check_cut(cut)
    check_cut(second)
    return not is_less(cut, second)


def in_house(goal, exact):
    """True if the exact number is above zero and below over."""
    return exact[0] > 0 and power_of(exact) <= last_power(goal)


def gap_place(chain, chain2, exact):
    """Kind, power and place of the gap in which an exact number with unlike results lies."""
    goal = goal_of(chain)
    E = power_of(exact)
    if E < goal[1]:
        return ("low", goal[1] - 1, 0)
    coarse = max(chain_units(chain, chain2, E))
    count = place_of(exact, coarse)[0]
    if E < last_power(goal) or count + 1 < 1 << (E + 1 - coarse):
        return ("in", E, count % 2)
    found = [at for at, gap in enumerate(end_gaps(chain, chain2)) if lies_between(exact, gap[0], gap[1])]
    return ("last", E, found[0])


def gap_of(chain, chain2, exact):
    """The gap in which an exact number of the house lies, None if the results are alike."""
    check_house(chain, chain2)
    check_exact(exact)
    if not in_house(goal_of(chain), exact):
        raise BadExact()
    if not are_unlike(chain, chain2, exact):
        return None
    return gap_place(chain, chain2, exact)


def power_witness(chain, chain2, E):
    """An exact number with unlike results at the power E, in the first gap there, None if there is none."""
    goal = goal_of(chain)
    coarse, gaps = power_gaps(chain, chain2, E)
    for h, gap in enumerate(gaps):
        if comes(goal, E, coarse, h) and is_less(gap[0], gap[1]):
            n, d, _ = inner_value(gap[0], gap[1])
            base, under, _ = dyadic(0 if E == goal[1] else 1, E)
            return lowest(n * under + base * d, d * under, 1)
    return None


def house_question(chain, chain2):
    """Whether the chains give alike results for all exact numbers of the house."""
    check_house(chain, chain2)
    goal = goal_of(chain)
    low, high = least_gap(chain, chain2)
    if is_less(low, high):
        return ("fails", inner_value(low, high))
    for E in range(goal[1], last_power(goal) + 1):
        found = power_witness(chain, chain2, E)
        if found is not None:
            return ("fails", found)
    gaps = end_gaps(chain, chain2)
    if gaps:
        return ("fails", inner_value(gaps[0][0], gaps[0][1]))
    return ("holds",)
