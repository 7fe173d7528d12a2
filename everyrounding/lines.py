"""The lines of a hall [52]: the shapes of their words, and what each of them gives or shows."""

from everyrounding.asks import answer_text, ask
from everyrounding.chains import check_chain, run_chain
from everyrounding.checks import integer_end
from everyrounding.decread import read
from everyrounding.decwrite import figures_text
from everyrounding.errors import BadSpan, BadText
from everyrounding.formats import check_format
from everyrounding.longsum import LongSum
from everyrounding.order import compare
from everyrounding.rests import cut_rest, rest, scale, whole
from everyrounding.seats import bits
from everyrounding.shortest import shortest
from everyrounding.spanpapers import step_span
from everyrounding.spans import holds_exact, span_of
from everyrounding.stations import deed
from everyrounding.values import exact_of, read_number, show

MOST_LETTERS = 8
MOST_CHARACTERS = 300

# The tables of names that a hall keeps.
TABLES = ("form", "number", "sum", "span", "chain")

# What the words behind the first one are: a name of a table, any name, an integer, or a word that is passed on.
SHAPES = {
    "form": ("name", "integer", "integer", "integer"),
    "gather": ("name",),
    "put": ("sum", "number"),
    "take": ("sum", "number"),
    "putmul": ("sum", "number", "number"),
    "merge": ("sum", "sum"),
    "clear": (),
    "let": ("name", "word"),
    "read": ("name", "form", "word", "word"),
    "rest": ("name", "number", "number"),
    "cutrest": ("name", "number", "number"),
    "whole": ("name", "word", "number"),
    "scale": ("name", "form", "word", "number", "integer"),
    "close": ("name", "sum", "form", "word"),
    "run": ("name", "chain", "number"),
    "span": ("name", "form", "number", "number"),
    "show": ("number",),
    "bits": ("form", "number"),
    "short": ("form", "word", "number"),
    "figures": ("integer", "word", "number"),
    "compare": ("number", "number"),
    "holds": ("span", "number"),
    "flags": (),
    "undo": (),
}

# The same for lines whose last words may come several times.
OPEN_SHAPES = {
    "chain": (("name",), ("form", "word")),
    "do": (("name", "word", "form", "word"), ("number",)),
    "spando": (("name", "word", "form"), ("span",)),
}

# The same behind the two first words of lines that ask.
ASK_SHAPES = {
    "table": ("form", "word", "form", "word"),
    "house": ("chain", "chain"),
    "door": ("word", "word", "integer", "integer"),
    "sumdoor": ("form", "form", "word"),
    "orders": ("form", "word", "integer", "integer", "integer"),
    "split": ("word", "form", "word"),
    "difference": ("form", "integer", "integer"),
    "trip": ("form", "integer", "word", "word", "integer", "integer"),
}


def is_name(word):
    """True for a word of one to eight small letters."""
    return 1 <= len(word) <= MOST_LETTERS and all(["a" <= sign <= "z" for sign in word])


def integer_of(word):
    """The integer that the word is; refuse every other word."""
    end, full = integer_end(word, 0)
    if not full or end < len(word):
        raise BadText(end)
    return int(word)


def shape_of(words):
    """What the words behind the first one must be; refuse a wrong first word, or a wrong word behind ask."""
    word = words[0]
    if word in SHAPES:
        return SHAPES[word]
    if word in OPEN_SHAPES:
        fixed, repeated = OPEN_SHAPES[word]
        return fixed + repeated * ((len(words) - 1 - len(fixed)) // len(repeated))
    if word != "ask" or len(words) < 2 or words[1] not in ASK_SHAPES:
        raise BadText(0)
    return ("word",) + ASK_SHAPES[words[1]]


def meaning_of(kind, word, tables):
    """What the word stands for in a line."""
    if kind == "word":
        return word
    if kind == "integer":
        return integer_of(word)
    if kind == "name":
        if not is_name(word):
            raise BadText(0)
        return word
    known = tables[kind]
    if word not in known:
        raise BadText(0)
    return known[word]


def words_of(text):
    """The words of a line; refuse an empty word and a line that is too long."""
    words = text.split(" ")
    if len(text) > MOST_CHARACTERS or "" in words:
        raise BadText(0)
    return words


def meanings_of(words, tables):
    """What the words behind the first one stand for; refuse a wrong word and a wrong number of words."""
    kinds = shape_of(words)
    if len(words) != len(kinds) + 1:
        raise BadText(0)
    return [meaning_of(kind, word, tables) for kind, word in zip(kinds, words[1:])]


def new_form(told):
    """A format."""
    form = tuple(told[1:])
    check_format(form)
    return form


def new_chain(told):
    """A chain."""
    parts = told[1:]
    chain = tuple([(parts[at], parts[at + 1]) for at in range(0, len(parts), 2)])
    check_chain(chain)
    return chain


def new_sum(_):
    """An empty long sum."""
    return LongSum()


def sum_with(told):
    """The sum with one number more. The old sum stays as it is, since an undo may bring it back."""
    total = told[0].twin()
    total.put(told[1])
    return total


def sum_without(told):
    """The sum less a number."""
    total = told[0].twin()
    total.take(told[1])
    return total


def sum_with_product(told):
    """The sum with a product more."""
    total = told[0].twin()
    total.put_product(told[1], told[2])
    return total


def merged_sum(told):
    """The sum with all parts of another one, or with its own once more."""
    total = told[0].twin()
    total.merge(told[1])
    return total


def let_answer(told):
    """The number that a text shows."""
    return (read_number(told[1]), ())


def read_answer(told):
    """The answer for a decimal text."""
    _, form, mode, text = told
    return read(form, text, mode=mode)


def deed_answer(told):
    """The answer of an operation."""
    _, op, form, mode = told[:4]
    xs = told[4:]
    return deed(op, form, *xs, mode=mode)


def rest_answer(told):
    """The answer for a rest."""
    return rest(told[1], told[2])


def cut_rest_answer(told):
    """The answer for a cut rest."""
    return cut_rest(told[1], told[2])


def whole_answer(told):
    """The answer for a number rounded to an integer."""
    return whole(told[2], mode=told[1])


def scale_answer(told):
    """The answer for a number times a power of two."""
    _, form, mode, x, k = told
    return scale(form, x, k, mode=mode)


def sum_answer(told):
    """The answer of a long sum."""
    return told[1].answer(told[2], mode=told[3])


def chain_answer(told):
    """The answer of a chain for the value of a number."""
    return run_chain(told[1], exact_of(told[2]))


def new_span(told):
    """The span from one number to another."""
    return span_of(told[1], told[2], told[3])


def step_of_spans(told):
    """The tightest step of an operation on spans; refuse an empty one."""
    _, op, form = told[:3]
    span = step_span(op, form, told[3:])
    if span is None:
        raise BadSpan()
    return span


def shown_number(told):
    """The text of a number."""
    return show(told[0])


def shown_bits(told):
    """The code of a number."""
    return bits(told[0], told[1])


def shown_shortest(told):
    """The shortest text of a number."""
    return shortest(told[0], told[2], five=told[1])


def shown_figures(told):
    """The text of a number with so many figures."""
    return figures_text(told[2], told[0], five=told[1])[0]


def shown_order(told):
    """How one number stands to another."""
    return compare(told[0], told[1])


def shown_member(told):
    """Whether a number lies in a span."""
    return "yes" if holds_exact(told[0], exact_of(told[1])) else "no"


def shown_answer(told):
    """The answer to a question, whose members stand in the line in an order of their own."""
    question = tuple(told)
    if told[0] == "orders":
        kind, form, mode, N, K, u = told
        question = (kind, form, N, K, u, mode)
    elif told[0] == "trip":
        kind, form, count, writer, reader, i, j = told
        question = (kind, form, count, i, j, writer, reader)
    return answer_text(question, ask(question))


# For each line that gives something a name: the table of the name.
GIVES = {
    "form": "form",
    "chain": "chain",
    "gather": "sum",
    "put": "sum",
    "take": "sum",
    "putmul": "sum",
    "merge": "sum",
    "let": "number",
    "read": "number",
    "do": "number",
    "rest": "number",
    "cutrest": "number",
    "whole": "number",
    "scale": "number",
    "close": "number",
    "run": "number",
    "span": "span",
    "spando": "span",
}

# What these lines give, and what the lines that show answer.
ACTIONS = {
    "form": new_form,
    "chain": new_chain,
    "gather": new_sum,
    "put": sum_with,
    "take": sum_without,
    "putmul": sum_with_product,
    "merge": merged_sum,
    "let": let_answer,
    "read": read_answer,
    "do": deed_answer,
    "rest": rest_answer,
    "cutrest": cut_rest_answer,
    "whole": whole_answer,
    "scale": scale_answer,
    "close": sum_answer,
    "run": chain_answer,
    "span": new_span,
    "spando": step_of_spans,
    "show": shown_number,
    "bits": shown_bits,
    "short": shown_shortest,
    "figures": shown_figures,
    "compare": shown_order,
    "holds": shown_member,
    "ask": shown_answer,
}


def acted(word, told):
    """What the action of a line gives or shows."""
    action = ACTIONS[word]
    return action(told)


def table_given(word):
    """The table in which the line gives a name, None if it gives none."""
    return GIVES.get(word, None)


def flag_words(flags):
    """The flags as a text."""
    return ",".join(flags) if flags else "-"


def number_line(name, x, flags):
    """The answer of a line that gives a number its name."""
    return f"{name} = {show(x)} {flag_words(flags)}"


def span_line(name, span):
    """The answer of a line that gives a span its name."""
    return f"{name} = {show(span[0])} {show(span[1])}"
