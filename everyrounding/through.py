"""Going through [35]: for which members of a family two chains give unlike results, by counting."""

from everyrounding.chains import goal_of
from everyrounding.cuts import is_less
from everyrounding.families import check_family, first_above, member_of
from everyrounding.gaps import chain_units, check_house, comes, end_gaps, last_power, least_gap, power_gaps
from everyrounding.places import power_of
from everyrounding.residues import least_residue, proves_none, residue_count, residue_paper
from everyrounding.values import dyadic


def check_through(chain, chain2, family):
    """Refuse the first wrong argument."""
    check_house(chain, chain2)
    check_family(family)


def first_beyond(series, cut):
    """The least m of the series whose member is above the cut, b + 1 if there is none."""
    n, d, _ = dyadic(cut[0], cut[1])
    return first_above(series, n, d, cut[2])


def outer_piece(series, kind, E, h, gap):
    """The piece of a low or last gap in a list, an empty list if no member lies in the gap."""
    low = first_beyond(series, gap[0])
    high = first_beyond(series, gap[1]) - 1
    return [(kind, E, h, low, high)] if low <= high else []


def point_units(cut, g):
    """The point of the cut in units 2^-g, an integer."""
    return cut[0] << (cut[1] + g)


def inner_piece(series, E, h, stretch, coarse, fine, gap):
    """The piece of a gap inside a power; fine and coarse are the least and the greatest unit power there."""
    s, t, d, _, _ = series
    g = max(0, 1 - fine)
    low, high = gap
    l = point_units(low, g) * d + low[2]
    r = point_units(high, g) * d + high[2]
    return ("in", E, h, stretch[0], stretch[1], t << g, s << g, d << (coarse + 1 + g), l, r)


def stretch_of(series, goal, E, coarse):
    """The first and the last m whose members lie at the power E and are looked at there."""
    low = first_beyond(series, (1, E, 0))
    if E < last_power(goal):
        return (low, first_beyond(series, (1, E + 1, 0)) - 1)
    count = (1 << (E + 1 - coarse)) - 1
    return (low, first_beyond(series, (count, coarse, 0)) - 1)


def power_facts(chain, chain2, E):
    """What the pieces at the power E need: coarsest and finest unit power, and the full gaps that come."""
    coarse, gaps = power_gaps(chain, chain2, E)
    fine = min(chain_units(chain, chain2, E))
    goal = goal_of(chain)
    full = [(h, gap) for h, gap in enumerate(gaps) if comes(goal, E, coarse, h) and is_less(gap[0], gap[1])]
    return (coarse, fine, full)


def series_pieces(series, goal, E, facts):
    """The pieces of a series inside the power E."""
    coarse, fine, full = facts
    if not full:
        return []
    stretch = stretch_of(series, goal, E, coarse)
    if stretch[0] > stretch[1]:
        return []
    return [inner_piece(series, E, h, stretch, coarse, fine, gap) for h, gap in full]


def powers_of(series, goal):
    """The first and the last power of the goal at which the series can have members."""
    low = power_of(member_of(series, series[3]))
    high = power_of(member_of(series, series[4]))
    return (max(low, goal[1]), min(high, last_power(goal)))


def all_pieces(chain, chain2, family):
    """The pieces of the family, in order."""
    goal = goal_of(chain)
    below = least_gap(chain, chain2)
    above = end_gaps(chain, chain2)
    facts = {}
    found = []
    for place, series in enumerate(family):
        told = outer_piece(series, "low", goal[1] - 1, 0, below)
        first, last = powers_of(series, goal)
        for E in range(first, last + 1):
            if E not in facts:
                facts[E] = power_facts(chain, chain2, E)
            told.extend(series_pieces(series, goal, E, facts[E]))
        for h, gap in enumerate(above):
            told.extend(outer_piece(series, "last", last_power(goal), h, gap))
        found.extend([(place,) + piece for piece in told])
    return found


def is_inner(piece):
    """True if the piece is of a gap inside a power, so that its unlike members are counted by residues."""
    return piece[1] == "in"


def piece_count(piece):
    """The number of unlike members of a piece."""
    if not is_inner(piece):
        return piece[5] - piece[4] + 1
    A, B, M, l, r = piece[6:]
    return residue_count(A, B, M, l, r, piece[4], piece[5])


def piece_first(piece):
    """The least m of an unlike member of a piece, None if it has none."""
    if not is_inner(piece):
        return piece[4]
    A, B, M, l, r = piece[6:]
    return least_residue(A, B, M, l, r, piece[4], piece[5])


def piece_paper(piece):
    """The residue paper of a piece."""
    A, B, M, l, r = piece[6:]
    return residue_paper(A, B, M, l, r, piece[4], piece[5])


def piece_proved(piece, paper):
    """True if the paper proves that the piece has no unlike member."""
    A, B, M, l, r = piece[6:]
    return proves_none(paper, A, B, M, l, r, piece[4], piece[5])


def first_unlike(found):
    """The place and the m of the first unlike member of all pieces, None if there is none."""
    told = None
    for piece in found:
        # The two gaps of one power take turns in the series, all other pieces follow one another.
        if told is not None and piece[:3] != told[0]:
            break
        m = piece_first(piece)
        if m is not None and (told is None or m < told[1]):
            told = (piece[:3], m)
    return None if told is None else (told[0][0], told[1])


def pieces(chain, chain2, family):
    """The pieces of the family: the gaps in which members can lie, with the residues that count them."""
    check_through(chain, chain2, family)
    return all_pieces(chain, chain2, family)


def count_through(chain, chain2, family):
    """The number of members of the house for which the chains give unlike numbers."""
    check_through(chain, chain2, family)
    return sum([piece_count(piece) for piece in all_pieces(chain, chain2, family)])


def through_question(chain, chain2, family):
    """Whether the chains give alike numbers for all members of the house, with a paper or the first that fails."""
    check_through(chain, chain2, family)
    found = all_pieces(chain, chain2, family)
    unlike = first_unlike(found)
    if unlike is not None:
        return ("fails", unlike[0], unlike[1])
    return ("holds", [piece_paper(piece) for piece in found])


def through_paper_holds(chain, chain2, family, paper):
    """True if the paper proves that the chains give alike numbers for all members of the house."""
    check_through(chain, chain2, family)
    found = all_pieces(chain, chain2, family)
    if type(paper) is not list or len(paper) != len(found) or not all([is_inner(piece) for piece in found]):
        return False
    return all([piece_proved(piece, told) for piece, told in zip(found, paper)])
