"""Chains [25]: roundings one behind the other, and where they step [26]."""

from everyrounding.checks import check_count
from everyrounding.cuts import format_cut
from everyrounding.errors import BadChain, BadExact
from everyrounding.formats import count_of, is_format, reaches_all
from everyrounding.places import check_exact
from everyrounding.rests import convert_answer
from everyrounding.rounding import is_mode, joined, mirrored, round_exact
from everyrounding.seats import above_size, below_size, rank_of

MOST_STEPS = 6


def is_step(value):
    """True for a step of a chain."""
    return type(value) is tuple and len(value) == 2 and is_format(value[0]) and is_mode(value[1])


def is_chain(value):
    """True for a chain."""
    if type(value) is not tuple or len(value) < 1 or len(value) > MOST_STEPS:
        return False
    return all([is_step(step) for step in value])


def check_chain(chain):
    """Refuse what is no chain."""
    if not is_chain(chain):
        raise BadChain()


def goal_of(chain):
    """The last format of a chain."""
    return chain[-1][0]


def is_fair(chain):
    """True if every format of the chain reaches its goal."""
    return all([reaches_all(form, goal_of(chain)) for form, _ in chain])


def run_steps(chain, exact):
    """The answer of a chain."""
    form, mode = chain[0]
    x, flags = round_exact(form, exact, mode, 0)
    for form, mode in chain[1:]:
        x, more = convert_answer(form, x, mode)
        flags = joined(flags, more)
    return (x, flags)


def rank_above(form, cut):
    """The least rank, 1 or greater, of a size of the format that is above the cut; infinity is above every cut."""
    if cut is None:
        return count_of(form) + 1
    m, q, side = cut
    if m == 0:
        return 1
    return above_size(form, m, q) if side == 1 else below_size(form, m, q) + 1


def chain_cut(chain, j):
    """The cut of the chain at the rank j of its goal."""
    goal, mode = chain[-1]
    cut = format_cut(goal, j, mode)
    for form, before in reversed(chain[:-1]):
        cut = format_cut(form, rank_above(form, cut) - 1, before)
    return cut


def check_rank(chain, j):
    """Refuse a wrong chain, then what is no rank of its goal below that of infinity."""
    check_chain(chain)
    check_count(j, 0, count_of(goal_of(chain)))


def fair(chain):
    """True if every format of the chain before the last reaches the goal."""
    check_chain(chain)
    return is_fair(chain)


def mirror_chain(chain):
    """The chain that does with minus z what this one does with z."""
    check_chain(chain)
    return tuple([(form, mirrored(mode)) for form, mode in chain])


def run_chain(chain, exact):
    """The answer for an exact number rounded from step to step."""
    check_chain(chain)
    check_exact(exact)
    return run_steps(chain, exact)


def pulled_cut(chain, j):
    """The cut above which the result of the chain has a rank above j."""
    check_rank(chain, j)
    return chain_cut(chain, j)


def passes(chain, j, exact):
    """True if the rank of the result is above j."""
    check_rank(chain, j)
    check_exact(exact)
    if exact[0] <= 0:
        raise BadExact()
    return rank_of(goal_of(chain), run_steps(chain, exact)[0]) > j
