"""Polynomials [43]: sums of terms (powers, n, d), each the coefficient n/d times powers of the variables."""

from math import gcd, lcm

from everyrounding.checks import check_count, is_integer
from everyrounding.errors import BadExact, NotAsked, TooMany
from everyrounding.places import is_exact, lowest

MOST_VARIABLES = 4
MOST_POWER = 64
MOST_TERMS = 60
MOST_PASSED = 200
VALUE_BITS = 300


def is_coefficient(n, d):
    """True for numerator and denominator of a coefficient, in any terms."""
    return is_exact((n, d, 1))


def are_powers(value, variables):
    """True for a tuple of one power for each variable."""
    if type(value) is not tuple or len(value) != variables:
        return False
    return all([is_integer(power) and 0 <= power <= MOST_POWER for power in value])


def is_term(value, variables):
    """True for a term, in any terms and also with the coefficient 0."""
    if type(value) is not tuple or len(value) != 3:
        return False
    return are_powers(value[0], variables) and is_coefficient(value[1], value[2])


def check_terms(variables, terms):
    """Refuse what is no list or tuple of so few terms."""
    if type(terms) is not tuple and type(terms) is not list:
        raise BadExact()
    if len(terms) > MOST_PASSED or not all([is_term(term, variables) for term in terms]):
        raise BadExact()


def fraction_sum(n, d, n2, d2):
    """The sum of two fractions in lowest terms, in lowest terms."""
    # What can be reduced divides the common part of the denominators, which is far shorter than the sum.
    common = gcd(d, d2)
    total = n * (d2 // common) + n2 * (d // common)
    more = gcd(total, common)
    return (total // more, (d // common) * (d2 // more))


def gathered(terms):
    """The terms in order and lowest terms, those with equal powers added and zeros left out."""
    found = {}
    for powers, n, d in terms:
        n, d, _ = lowest(n, d, 1)
        if powers in found:
            n2, d2 = found[powers]
            n, d = fraction_sum(n, d, n2, d2)
        found[powers] = (n, d)
    return [(powers, found[powers][0], found[powers][1]) for powers in sorted(list(found)) if found[powers][0] != 0]


def negated_terms(terms):
    """The terms of the polynomial with the other sign."""
    return [(powers, -n, d) for powers, n, d in terms]


def summed_terms(terms, more):
    """The terms of the sum of two polynomials, which may break the bounds."""
    return gathered(list(terms) + list(more))


def multiplied_terms(terms, more):
    """The terms of the product of two polynomials, which may break the bounds."""
    found = []
    for powers, n, d in terms:
        for powers2, n2, d2 in more:
            found.append((tuple([i + j for i, j in zip(powers, powers2)]), n * n2, d * d2))
    return gathered(found)


def are_bounded(terms):
    """True if no power and no coefficient of the terms breaks a bound."""
    for powers, n, d in terms:
        if max(powers) > MOST_POWER or not is_coefficient(n, d):
            return False
    return True


def bounded(terms):
    """The terms; refuse too many of them, then a power or a coefficient that breaks a bound."""
    if len(terms) > MOST_TERMS:
        raise TooMany(MOST_TERMS)
    if not are_bounded(terms):
        raise BadExact()
    return terms


def variable_terms(variables, at):
    """The terms of the polynomial that is one variable."""
    return [(tuple([1 if k == at else 0 for k in range(variables)]), 1, 1)]


def constant_terms(variables, n, d):
    """The terms of a polynomial that is a constant, also with the coefficient 0."""
    return [((0,) * variables, n, d)]


def power_list(base, most):
    """The powers of an integer from the one with exponent 0 to this one."""
    found = [1]
    for _ in range(most):
        found.append(found[-1] * base)
    return found


def highest_power(terms, at):
    """The highest power of a variable in the terms, 0 if there are no terms."""
    return max([0] + [powers[at] for powers, _, _ in terms])


def value_of_terms(terms, exacts):
    """Numerator and denominator, in lowest terms, of the value of the terms at these exact numbers."""
    # All terms are brought to one denominator, so that only the whole value has to be reduced.
    tops = [highest_power(terms, at) for at in range(len(exacts))]
    over = [power_list(exact[0], top) for exact, top in zip(exacts, tops)]
    under = [power_list(exact[1], top) for exact, top in zip(exacts, tops)]
    common = 1
    for _, _, d in terms:
        common = lcm(common, d)
    total = 0
    for powers, n, d in terms:
        part = n * (common // d)
        for at, power in enumerate(powers):
            part = part * over[at][power] * under[at][tops[at] - power]
        total = total + part
    for at, top in enumerate(tops):
        common = common * under[at][top]
    return lowest(total, common, 1)


def check_exacts(exacts, variables):
    """Refuse what is no list of so many short fractions."""
    if type(exacts) is not list or len(exacts) != variables:
        raise BadExact()
    for exact in exacts:
        if not is_exact(exact) or exact[2] != 1:
            raise BadExact()
        if exact[0].bit_length() > VALUE_BITS or exact[1].bit_length() > VALUE_BITS:
            raise BadExact()


class Poly:
    """A polynomial in up to four variables."""

    def __init__(self, variables, terms=()):
        check_count(variables, 1, MOST_VARIABLES)
        check_terms(variables, terms)
        self._variables = variables
        self._terms = bounded(gathered(terms))

    @staticmethod
    def variable(variables, at):
        """The polynomial that is one variable."""
        check_count(variables, 1, MOST_VARIABLES)
        check_count(at, 0, variables - 1)
        return Poly(variables, variable_terms(variables, at))

    @staticmethod
    def constant(variables, n, d):
        """The polynomial that is the constant n/d."""
        check_count(variables, 1, MOST_VARIABLES)
        return Poly(variables, constant_terms(variables, n, d))

    @property
    def variables(self):
        """The number of variables."""
        return self._variables

    def __iter__(self):
        return iter(self._terms)

    def __len__(self):
        return len(self._terms)

    def __eq__(self, other):
        if not isinstance(other, Poly):
            return False
        return self._variables == other._variables and self._terms == other._terms

    def __neg__(self):
        return Poly(self._variables, negated_terms(self._terms))

    def __add__(self, other):
        if not isinstance(other, Poly):
            return NotImplemented
        if self._variables != other._variables:
            raise NotAsked()
        return Poly(self._variables, bounded(summed_terms(self._terms, other._terms)))

    def __sub__(self, other):
        if not isinstance(other, Poly):
            return NotImplemented
        if self._variables != other._variables:
            raise NotAsked()
        return Poly(self._variables, bounded(summed_terms(self._terms, negated_terms(other._terms))))

    def __mul__(self, other):
        if not isinstance(other, Poly):
            return NotImplemented
        if self._variables != other._variables:
            raise NotAsked()
        return Poly(self._variables, bounded(multiplied_terms(self._terms, other._terms)))

    def __call__(self, exacts):
        check_exacts(exacts, self._variables)
        n, d, k = value_of_terms(self._terms, exacts)
        if not is_exact((n, d, k)):
            raise BadExact()
        return (n, d, k)
