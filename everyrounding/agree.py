"""Agreement [48] and being within bounds [49]: claims for all points of a box, decided by cutting the box."""

from everyrounding.checks import check_count
from everyrounding.errors import NotAsked, TooMany
from everyrounding.order import compare_total
from everyrounding.programs import check_program, last_number, polynomial_of
from everyrounding.ranges import check_program_box, grids_of, numbers_at, points_of, ranges_of
from everyrounding.values import are_alike, check_number

MOST_BOXES = 400


def lies_within(x, low, high):
    """True if the number is not below low and not above high in the total order."""
    return compare_total(low, x) <= 0 and compare_total(x, high) <= 0


def has_grids(program, box):
    """True if every step of the program has a grid over the box."""
    return None not in grids_of(program, box)


class Agreement:
    """The claim that two programs give alike last numbers."""

    def __init__(self, program, program2):
        self.program = program
        self.program2 = program2
        self.told = polynomial_of(program)
        self.told2 = polynomial_of(program2)

    def is_steady(self, box):
        """True if both programs give one and the same number all over the box, by their ranges."""
        bounds = ranges_of(self.program, box)[-1]
        bounds2 = ranges_of(self.program2, box)[-1]
        if bounds is None or bounds2 is None:
            return False
        return all([are_alike(bounds[0], x) for x in (bounds[1], bounds2[0], bounds2[1])])

    def is_exact(self, box):
        """True if both programs are exact over the box and the same polynomial."""
        if self.told is None or self.told != self.told2:
            return False
        return has_grids(self.program, box) and has_grids(self.program2, box)

    def holds_at(self, xs):
        """True if both programs give alike numbers for these inputs."""
        return are_alike(last_number(self.program, xs), last_number(self.program2, xs))


class Bounding:
    """The claim that the last number of a program lies within bounds."""

    def __init__(self, program, low, high):
        self.program = program
        self.low = low
        self.high = high

    def is_steady(self, box):
        """True if the program stays within the bounds all over the box, by its ranges."""
        bounds = ranges_of(self.program, box)[-1]
        if bounds is None:
            return False
        return lies_within(bounds[0], self.low, self.high) and lies_within(bounds[1], self.low, self.high)

    def is_exact(self, box):
        """False for every box: an exact result need not lie within the bounds."""
        return False

    def holds_at(self, xs):
        """True if the last number for these inputs lies within the bounds."""
        return lies_within(last_number(self.program, xs), self.low, self.high)


def corner(box):
    """The first point of the box."""
    return tuple([a for _, a, _ in box])


def halved(box):
    """The lower and the upper half of a box with more than one point, cut at the first side that has more than one."""
    at = 0
    while box[at][1] == box[at][2]:
        at = at + 1
    form, a, b = box[at]
    middle = (a + b) // 2
    lower = box[:at] + ((form, a, middle),) + box[at + 1:]
    return (lower, box[:at] + ((form, middle + 1, b),) + box[at + 1:])


def is_right_letter(claim, box, letter):
    """True if the letter may stand at this box."""
    if letter == "S":
        return claim.is_steady(box)
    if letter == "X":
        return claim.is_exact(box)
    if letter == "C":
        return points_of(box) > 1
    return letter == "P" and points_of(box) == 1 and claim.holds_at(numbers_at(box, corner(box)))


def told_letter(claim, box):
    """The letter that the search gives to a box, None for a point at which the claim fails."""
    for letter in "SXPC":
        if is_right_letter(claim, box, letter):
            return letter
    return None


def searched(claim, box, limit):
    """The letters of the search, or the first point at which the claim fails; refuse to look at too many boxes."""
    waiting = [box]
    letters = []
    while waiting:
        if len(letters) == limit:
            raise TooMany(limit)
        part = waiting.pop()
        letter = told_letter(claim, part)
        if letter is None:
            return ("fails", corner(part))
        letters.append(letter)
        if letter == "C":
            lower, upper = halved(part)
            waiting.extend([upper, lower])
    return ("holds", "".join(letters))


def is_tree(claim, box, letters):
    """True if the letters prove the claim for all points of the box."""
    if type(letters) is not str:
        return False
    waiting = [box]
    for letter in letters:
        if not waiting:
            return False
        part = waiting.pop()
        if not is_right_letter(claim, part, letter):
            return False
        if letter == "C":
            lower, upper = halved(part)
            waiting.extend([upper, lower])
    return not waiting


def check_limit(limit):
    """Refuse what is no limit of boxes."""
    check_count(limit, 1, MOST_BOXES)


def check_programs(program, program2, box):
    """Refuse the first wrong argument; the box has as many sides as the first program has inputs."""
    check_program(program)
    check_program(program2)
    check_program_box(program, box)


def check_same_inputs(program, program2):
    """Refuse programs with unlike counts of inputs."""
    if program[0] != program2[0]:
        raise NotAsked()


def check_agree(program, program2, box, limit):
    """Refuse all that agree refuses before it searches."""
    check_programs(program, program2, box)
    check_limit(limit)
    check_same_inputs(program, program2)


def check_bounded(program, box, low, high):
    """Refuse the first wrong argument."""
    check_program_box(program, box)
    check_number(low)
    check_number(high)


def check_bounds(low, high):
    """Refuse bounds that are infinite or NaN, or the lower one of which is greater."""
    if low[1] < 0 or high[1] < 0 or compare_total(low, high) > 0:
        raise NotAsked()


def check_within(program, box, low, high, limit):
    """Refuse all that within refuses before it searches."""
    check_bounded(program, box, low, high)
    check_limit(limit)
    check_bounds(low, high)


def agree(program, program2, box, limit):
    """Whether two programs give alike last numbers at all points of the box, with letters or the first that fails."""
    check_agree(program, program2, box, limit)
    return searched(Agreement(program, program2), box, limit)


def within(program, box, low, high, limit):
    """Whether the last number lies within the bounds at all points of the box, with letters or the first that fails."""
    check_within(program, box, low, high, limit)
    return searched(Bounding(program, low, high), box, limit)


def tree_holds(program, program2, box, letters):
    """True if the letters prove that two programs give alike last numbers at all points of the box."""
    check_programs(program, program2, box)
    check_same_inputs(program, program2)
    return is_tree(Agreement(program, program2), box, letters)


def within_holds(program, box, low, high, letters):
    """True if the letters prove that the last number lies within the bounds at all points of the box."""
    check_bounded(program, box, low, high)
    check_bounds(low, high)
    return is_tree(Bounding(program, low, high), box, letters)
