"""Questions [50]: the claims of the program as tuples, with their answers."""

from everyrounding.agree import agree, check_agree, check_within, within
from everyrounding.doors import check_door, check_sumdoor, door_question, sumdoor_question
from everyrounding.errors import NotAsked
from everyrounding.gaps import check_house, house_question
from everyrounding.order import check_difference, difference_question
from everyrounding.plans import check_orders, order_question
from everyrounding.spanpapers import check_input_spans, spans_of
from everyrounding.spans import check_span, contains
from everyrounding.splits import check_split, split_question
from everyrounding.standins import check_standin, standin_question
from everyrounding.table import check_table, table_question
from everyrounding.through import check_through, through_question
from everyrounding.trips import check_trip, trip_question
from everyrounding.values import check_number, show

KINDS = ("table", "house", "through", "standin", "trip", "door", "sumdoor", "orders", "split", "difference", "agree",
         "within", "spans")

# How many members a question of each kind has behind its kind.
MEMBERS = {
    "table": 4,
    "house": 2,
    "through": 3,
    "standin": 4,
    "trip": 6,
    "door": 4,
    "sumdoor": 3,
    "orders": 5,
    "split": 3,
    "difference": 3,
    "agree": 4,
    "within": 5,
    "spans": 4,
}


def check_spans_question(program, spans, low, high):
    """Refuse the first wrong member, then ends that are no span, then a program with an empty step."""
    check_input_spans(program, spans)
    check_number(low)
    check_number(high)
    check_span((low, high))
    if spans_of(program, spans)[-1] is None:
        raise NotAsked()


def spans_question(program, spans, low, high):
    """Whether the last span of the program on the spans lies within the ends, with the claims or this last span."""
    check_spans_question(program, spans, low, high)
    found = spans_of(program, spans)
    if contains((low, high), found[-1]):
        return ("holds", found)
    return ("fails", found[-1])


def check_shape(question):
    """Refuse what is no tuple of one of the kinds and as many members as this kind has."""
    if type(question) is not tuple or not question or type(question[0]) is not str:
        raise NotAsked()
    if question[0] not in KINDS or len(question) != MEMBERS[question[0]] + 1:
        raise NotAsked()


def check_counted(kind, members):
    """Refuse the wrong members of a question about chains, families or trips."""
    if kind == "table":
        check_table(*members)
    elif kind == "house":
        check_house(*members)
    elif kind == "through":
        check_through(*members)
    elif kind == "standin":
        check_standin(*members)
    else:
        check_trip(*members)


def check_operated(kind, members):
    """Refuse the wrong members of a question about operations."""
    if kind == "door":
        check_door(*members)
    elif kind == "sumdoor":
        check_sumdoor(*members)
    elif kind == "orders":
        check_orders(*members)
    elif kind == "split":
        check_split(*members)
    else:
        check_difference(*members)


def check_members(kind, members):
    """Refuse all that the function of this kind refuses before it searches."""
    if kind in KINDS[:5]:
        check_counted(kind, members)
    elif kind in KINDS[5:10]:
        check_operated(kind, members)
    elif kind == "agree":
        check_agree(*members)
    elif kind == "within":
        check_within(*members)
    else:
        check_spans_question(*members)


def ask_counted(kind, members):
    """The answer to a question about chains, families or trips."""
    if kind == "table":
        return table_question(*members)
    if kind == "house":
        return house_question(*members)
    if kind == "through":
        return through_question(*members)
    if kind == "standin":
        form, series, series2, mode = members
        return standin_question(form, series, series2, mode=mode)
    form, count, i, j, writer, reader = members
    return trip_question(form, count, i, j, writer=writer, reader=reader)


def ask_operated(kind, members):
    """The answer to a question about operations."""
    if kind == "door":
        return door_question(*members)
    if kind == "sumdoor":
        return sumdoor_question(*members)
    if kind == "orders":
        form, N, K, u, mode = members
        return order_question(form, N, K, u, mode=mode)
    if kind == "split":
        op, form, mode = members
        return split_question(op, form, mode=mode)
    return difference_question(*members)


def ask_members(kind, members):
    """The answer to a question of this kind."""
    if kind in KINDS[:5]:
        return ask_counted(kind, members)
    if kind in KINDS[5:10]:
        return ask_operated(kind, members)
    if kind == "agree":
        return agree(*members)
    if kind == "within":
        return within(*members)
    return spans_question(*members)


def witness_words(kind, told):
    """The words for the members of a failing answer."""
    if kind == "table" or kind == "house":
        n, d, _ = told[0]
        return [f"{n}/{d}"]
    if kind == "through" or kind == "standin" or kind == "trip":
        return [str(count) for count in told]
    if kind == "agree" or kind == "within":
        return [str(k) for k in told[0]]
    if kind == "orders" or kind == "spans":
        return [show(x) for x in told[0]]
    return [show(x) for x in told if x is not None]


def ask(question):
    """The answer to a question."""
    check_shape(question)
    return ask_members(question[0], question[1:])


def check_question(question):
    """Refuse what ask refuses before it searches."""
    check_shape(question)
    check_members(question[0], question[1:])


def answer_text(question, answer):
    """An answer that ask gave to this question, as a text."""
    if answer[0] == "holds":
        return "holds"
    return " ".join(["fails"] + witness_words(question[0], answer[1:]))
