import unittest

from everyrounding.agree import agree, within
from everyrounding.asks import KINDS, answer_text, ask, check_question
from everyrounding.doors import door_question, sumdoor_question
from everyrounding.errors import BadBox, BadChain, BadCount, BadFamily, BadFormat, BadMode, BadNumber, BadOp, BadProgram, BadSpan, NotAsked
from everyrounding.errors import TooMany
from everyrounding.gaps import house_question
from everyrounding.order import difference_question
from everyrounding.plans import order_question
from everyrounding.spanpapers import run_spans
from everyrounding.splits import split_question
from everyrounding.standins import standin_question
from everyrounding.table import table_question
from everyrounding.through import through_question
from everyrounding.trips import trip_question
from tests.oracle import INF, MINUS_INF, MINUS_ZERO, NAN, TINY, ZERO, assert_refused, refusal
from tests.test_programs import steps
from tests.test_spans import LINE

ONE, TWO, FOUR, LOW = (0, 1, 0), (0, 1, 1), (0, 1, 2), (1, 1, 0)
WIDE = (3, -1, 2)
CHAIN, FINER = ((TINY, "even"),), ((WIDE, "even"), (TINY, "even"))
ODD = ((WIDE, "odd"), (TINY, "zero"))
ZEROED = ((TINY, "zero"),)
FAMILY = ((0, 1, 8, 1, 40),)
WHOLE = ((0, 1, 1, 1, 3),)
SERIES, SERIES2, NEAR = (0, 1, 3, 1, 4), (0, 3, 8, 1, 4), (1, 100, 300, 1, 4)
SUM = (2, (), (("add", (0, 1), TINY, "even"),))
SWAPPED = (2, (), (("add", (1, 0), TINY, "even"),))
LESS = (2, (), (("sub", (0, 1), TINY, "even"),))
DIVIDED = (2, (), (("div", (0, 1), TINY, "even"), ("add", (2, 0), TINY, "even")))
BOX = ((TINY, 1, 2), (TINY, 1, 2))
SPANS = [(ONE, TWO), (ZERO, ONE)]

# For each kind two questions, the first of which holds, and the answers of the functions called by themselves.
QUESTIONS = [
    (("table", TINY, "even", (4, -2, 2), "odd"), table_question(TINY, "even", (4, -2, 2), "odd")),
    (("table", TINY, "even", WIDE, "even"), table_question(TINY, "even", WIDE, "even")),
    (("house", ODD, ZEROED), house_question(ODD, ZEROED)),
    (("house", FINER, CHAIN), house_question(FINER, CHAIN)),
    (("through", FINER, CHAIN, WHOLE), through_question(FINER, CHAIN, WHOLE)),
    (("through", FINER, CHAIN, FAMILY), through_question(FINER, CHAIN, FAMILY)),
    (("standin", TINY, SERIES, NEAR, "even"), standin_question(TINY, SERIES, NEAR)),
    (("standin", TINY, SERIES, SERIES2, "up"), standin_question(TINY, SERIES, SERIES2, mode="up")),
    (("trip", (4, 0, 3), 3, 1, 39, "even", "away"), trip_question((4, 0, 3), 3, 1, 39, writer="even", reader="away")),
    (("trip", (4, 0, 3), 2, 1, 39, "up", "down"), trip_question((4, 0, 3), 2, 1, 39, writer="up", reader="down")),
    (("door", "mul", "even", 4, 8), door_question("mul", "even", 4, 8)),
    (("door", "root", "away", 4, 8), door_question("root", "away", 4, 8)),
    (("sumdoor", TINY, (4, 0, 2), "even"), sumdoor_question(TINY, (4, 0, 2), "even")),
    (("sumdoor", (2, 0, 3), (3, 0, 3), "away"), sumdoor_question((2, 0, 3), (3, 0, 3), "away")),
    (("orders", TINY, 3, 2, 0, "down"), order_question(TINY, 3, 2, 0, mode="down")),
    (("orders", TINY, 5, 3, 1, "even"), order_question(TINY, 5, 3, 1)),
    (("split", "mul", TINY, "zero"), split_question("mul", TINY, mode="zero")),
    (("split", "mul", (2, -1, 2), "up"), split_question("mul", (2, -1, 2), mode="up")),
    (("difference", TINY, 5, 3), difference_question(TINY, 5, 3)),
    (("difference", TINY, 3, 1), difference_question(TINY, 3, 1)),
    (("agree", SUM, SWAPPED, BOX, 20), agree(SUM, SWAPPED, BOX, 20)),
    (("agree", SUM, LESS, BOX, 20), agree(SUM, LESS, BOX, 20)),
    (("within", SUM, BOX, ONE, FOUR, 20), within(SUM, BOX, ONE, FOUR, 20)),
    (("within", SUM, BOX, ONE, TWO, 20), within(SUM, BOX, ONE, TWO, 20)),
    (("spans", SUM, SPANS, ZERO, FOUR), ("holds", run_spans(SUM, SPANS))),
    (("spans", SUM, SPANS, ONE, TWO), ("fails", run_spans(SUM, SPANS)[-1])),
]


class TestAsk(unittest.TestCase):
    def test_kinds(self):
        self.assertEqual(KINDS, ("table", "house", "through", "standin", "trip", "door", "sumdoor", "orders", "split", "difference",
                    "agree", "within",
                                 "spans"))
        self.assertIs(type(KINDS), tuple)

    def test_each_kind_against_its_function(self):
        self.assertEqual([question[0] for question, _ in QUESTIONS[::2]], list(KINDS))
        self.assertEqual([question[0] for question, _ in QUESTIONS[1::2]], list(KINDS))
        for at, (question, answer) in enumerate(QUESTIONS):
            self.assertEqual(ask(question), answer)
            self.assertIs(type(ask(question)), tuple)
            self.assertEqual(answer[0], "holds" if at % 2 == 0 else "fails", question)
            self.assertIsNone(check_question(question))

    def test_spans(self):
        self.assertEqual(ask(("spans", SUM, SPANS, ONE, (0, 3, 0))), ("holds", [(ONE, (0, 3, 0))]))
        self.assertEqual(ask(("spans", SUM, SPANS, ONE, (0, 5, -1))), ("fails", (ONE, (0, 3, 0))))
        self.assertEqual(ask(("spans", SUM, SPANS, MINUS_INF, INF)), ("holds", [(ONE, (0, 3, 0))]))
        self.assertEqual(ask(("spans", SUM, [LINE, SPANS[0]], MINUS_INF, ONE)), ("fails", LINE))
        # The first span of these two is from 0 to 2, the last one from 1 to 4.
        self.assertEqual(run_spans(DIVIDED, [SPANS[0], SPANS[0]]), [(ZERO, TWO), (ONE, FOUR)])
        self.assertEqual(ask(("spans", DIVIDED, [SPANS[0], SPANS[0]], ONE, FOUR))[0], "holds")
        self.assertEqual(ask(("spans", DIVIDED, [SPANS[0], SPANS[0]], ZERO, TWO)), ("fails", (ONE, FOUR)))
        told = ask(("spans", DIVIDED, [SPANS[0], SPANS[0]], ZERO, FOUR))
        self.assertEqual(told, ("holds", run_spans(DIVIDED, [SPANS[0], SPANS[0]])))

    def test_no_question(self):
        wrongs = [None, True, 0, "table", (), [], ["table"], ("x",), (None,), (1,), (True,), (("table",),), ("spans ",), ("Table",
                    1, 2, 3, 4), ("",)]
        wrongs += [question[:-1] for question, _ in QUESTIONS] + [question + (1,) for question, _ in QUESTIONS]
        wrongs += [list(question) for question, _ in QUESTIONS] + [(kind,) for kind in KINDS] + [question[1:] for question, _ in QUESTIONS]
        for wrong in wrongs:
            assert_refused(self, NotAsked, ask, wrong)
            assert_refused(self, NotAsked, check_question, wrong)

    def check(self, error, *question):
        assert_refused(self, error, ask, question)
        assert_refused(self, error, check_question, question)

    def test_wrong_members_alone_and_several_at_once(self):
        told = {"table": [BadFormat, BadMode, BadFormat, BadMode], "house": [BadChain] * 2, "through": [BadChain] * 2 + [BadFamily],
                "standin": [BadFormat, BadFamily, BadFamily, BadMode], "trip": [BadFormat, BadCount, BadCount, BadCount, BadMode, BadMode],
                "door": [BadOp, BadMode, BadCount, BadCount], "sumdoor": [BadFormat, BadFormat, BadMode],
                "orders": [BadFormat, BadCount, BadCount, BadCount, BadMode], "split": [BadOp, BadFormat, BadMode],
                "difference": [BadFormat, BadCount, BadCount], "agree": [BadProgram, BadProgram, BadBox, BadCount],
                "within": [BadProgram, BadBox, BadNumber, BadNumber, BadCount], "spans": [BadProgram, BadSpan, BadNumber, BadNumber]}
        self.assertEqual(tuple(told), KINDS)
        for question, _ in QUESTIONS:
            classes = told[question[0]]
            for at, error in enumerate(classes):
                for wrong in (None, True, "?", ()):
                    self.check(error, *question[:at + 1], wrong, *question[at + 2:])
                    # All members behind it are wrong as well: the first one decides.
                    self.check(error, *question[:at + 1], wrong, *[None] * (len(classes) - at - 1))

    def test_the_order_of_the_functions(self):
        one = (1, (), (("add", (0, 0), TINY, "even"),))
        self.check(BadBox, "agree", SUM, SWAPPED, BOX[:1], 401)
        self.check(BadCount, "agree", SUM, one, BOX, 401)
        self.check(NotAsked, "agree", SUM, one, BOX, 400)
        self.check(BadBox, "within", SUM, BOX[:1], NAN, None, 401)
        self.check(BadCount, "within", SUM, BOX, NAN, NAN, 401)
        self.check(NotAsked, "within", SUM, BOX, FOUR, ONE, 400)
        self.check(BadCount, "trip", (4, 0, 3), 2, 5, 4, "odd", None)
        self.check(BadMode, "trip", (2, -200, 200), 2, 1, 500, "even", "odd")
        self.check(NotAsked, "trip", (2, -200, 200), 2, 1, 500, "even", "even")
        self.check(BadMode, "standin", TINY, SERIES, FAMILY[0], "x")
        self.check(NotAsked, "standin", TINY, SERIES, FAMILY[0], "even")
        self.check(NotAsked, "standin", TINY, SERIES2, SERIES, "even")
        self.check(BadChain, "house", (((2, 1, 1), "even"), (WIDE, "even")), CHAIN)
        self.check(BadChain, "through", FINER, ((WIDE, "even"),), FAMILY)
        self.check(NotAsked, "sumdoor", TINY, (3, 1, 1), "even")
        self.check(BadMode, "table", TINY, "odd", TINY, "x")
        self.check(NotAsked, "orders", TINY, 2, 1, 0, "even")
        self.check(BadMode, "orders", TINY, 2, 1, 0, "x")
        self.check(NotAsked, "split", "div", TINY, "up")
        self.check(BadMode, "split", "div", TINY, "x")
        self.check(BadOp, "split", "sub", None, None)
        self.check(NotAsked, "difference", TINY, 1, 2)
        self.check(BadCount, "difference", TINY, 1, 0)
        self.check(BadCount, "door", "mul", "even", 4, 3)

    def test_errors_of_spans(self):
        self.check(BadSpan, "spans", SUM, SPANS[:1], None, None)
        self.check(BadSpan, "spans", SUM, SPANS * 2, None, None)
        self.check(BadSpan, "spans", SUM, [SPANS[0], None], None, None)
        self.check(BadNumber, "spans", SUM, SPANS, NAN, None)
        for low, high in [(MINUS_ZERO, ONE), (LOW, MINUS_ZERO), (NAN, NAN), (INF, INF), (MINUS_INF, MINUS_INF), (TWO, ONE), (ONE, NAN)]:
            self.check(BadSpan, "spans", SUM, SPANS, low, high)
            self.check(BadSpan, "spans", DIVIDED, [SPANS[0], (ZERO, ZERO)], low, high)
        self.check(NotAsked, "spans", DIVIDED, [SPANS[0], (ZERO, ZERO)], ONE, TWO)
        late = (2, (), (("add", (0, 1), TINY, "even"), ("root", (1,), TINY, "even")))
        self.check(NotAsked, "spans", late, [SPANS[0], (LOW, LOW)], ONE, TWO)
        self.assertEqual(refusal(ask, ("spans", (2, (), (None,)), SPANS, ONE, TWO)).at, 0)

    def test_too_many_is_no_fault_of_the_question(self):
        for question in [("agree", SUM, LESS, BOX, 1), ("within", SUM, BOX, ONE, TWO, 1)]:
            self.assertEqual(assert_refused(self, TooMany, ask, question).limit, 1)
            self.assertIsNone(check_question(question))


class TestText(unittest.TestCase):
    def test_texts(self):
        told = ["holds", "fails 5/8", "holds", "fails 5/8", "holds", "fails 0 5", "holds", "fails 3", "holds", None, "holds",
                    "fails 9p1", "holds",
                None, "holds", None, "holds", "fails 1p-1 1p-1", "holds", "fails 1p3 3p0", "holds", "fails 1 1", "holds", None,
                            "holds", "fails 1p0 3p0"]
        for (question, answer), text in zip(QUESTIONS, told):
            found = answer_text(question, answer)
            if text is not None:
                self.assertEqual(found, text, question)
            self.assertEqual(found.split(" ")[0], answer[0])

    def test_exact_numbers_with_a_denominator_of_one(self):
        self.assertEqual(answer_text(("table", TINY, "even", WIDE, "even"), ("fails", (-7, 1, 1))), "fails -7/1")
        self.assertEqual(answer_text(("house", CHAIN, FINER), ("fails", (3, 4, 1))), "fails 3/4")

    def test_numbers_and_none(self):
        self.assertEqual(answer_text(("door", "add", "even", 3, 4), door_question("add", "even", 3, 4)), "fails 5p0 7p-4")
        self.assertEqual(answer_text(("door", "root", "even", 3, 4), door_question("root", "even", 3, 4)), "fails 7p1")
        self.assertEqual(answer_text(("sumdoor", (3, 0, 0), (2, 0, 3), "even"), sumdoor_question((3, 0, 0), (2, 0, 3), "even")),
                    "fails 7p0 0")
        self.assertEqual(answer_text(("split", "add", (2, 0, 9), "down"), split_question("add", (2, 0, 9), mode="down")), "fails 3p9 -1p0")

    def test_orders_agree_within_spans(self):
        self.assertEqual(answer_text(("orders", TINY, 5, 3, 0, "even"), order_question(TINY, 5, 3, 0)), "fails -1p0 3p0 1p1 0 0")
        self.assertEqual(answer_text(("agree", SUM, LESS, BOX, 9), ("fails", (-3, 12))), "fails -3 12")
        self.assertEqual(answer_text(("within", SUM, BOX, ONE, TWO, 9), ("fails", (-1,))), "fails -1")
        self.assertEqual(answer_text(("spans", SUM, SPANS, ONE, TWO), ("fails", LINE)), "fails -inf inf")
        self.assertEqual(answer_text(("trip", TINY, 1, 1, 7, "even", "even"), ("fails", 7)), "fails 7")
