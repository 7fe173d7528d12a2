import unittest

from everyrounding.asks import answer_text, ask
from everyrounding.chains import run_chain
from everyrounding.decread import read
from everyrounding.decwrite import figures_text
from everyrounding.errors import BadText, TooMany
from everyrounding.rests import scale, whole
from everyrounding.script import Hall, run_script
from everyrounding.seats import bits
from everyrounding.shortest import shortest
from everyrounding.stations import deed
from everyrounding.values import read_number, show
from tests.oracle import TINY, assert_at, assert_refused

START = ["form a 2 0 2", "form b 4 -2 2", "let x 3p1", "let y 1p0", "let z -3p-1", "let n nan", "let i inf", "let o -0"]
WORDS = ["form", "chain", "gather", "put", "take", "putmul", "merge", "clear", "let", "read", "do", "rest", "cutrest", "whole",
            "scale", "close", "run", "span",
         "spando", "show", "bits", "short", "figures", "compare", "holds", "flags", "ask", "undo"]


def hall_after(*lines):
    """A hall that has answered the start and these lines, none of which it refused."""
    hall = Hall()
    for line in START + list(lines):
        assert hall.line(line) != "refused", line
    return hall


def state(hall):
    """All that the lines of a hall can show."""
    names = ["x", "y", "z", "n", "i", "o", "s", "t", "u", "v", "w", "c", "d", "a", "b", "e", "show"]
    shown = [other_line(hall, text) for name in names for text in (f"show {name}", f"bits {name} x", f"holds {name} x",
                f"close q {name} a even",
                                                                   f"run q {name} x", f"merge q {name}", f"compare x {name}")]
    return (shown, hall.flags, hall.many)


def other_line(hall, text):
    """The answer to a line that is then taken back; the flags and the lines that undo could take back stay."""
    told = hall.line(text)
    if told != "refused" and text.split()[0] in ("close", "run", "merge"):
        assert hall.line("undo") == "ok"
    return told


class Checker(unittest.TestCase):
    def check(self, hall, *pairs):
        for line, answer in pairs:
            self.assertEqual(hall.line(line), answer, line)

    def refuse(self, hall, *lines):
        """Each line is refused and nothing changes but the number of answers."""
        before = (hall.flags, hall.many, len(hall))
        for line in lines:
            self.assertEqual(hall.line(line), "refused", line)
        self.assertEqual((hall.flags, hall.many, len(hall)), (before[0], before[1], before[2] + len(lines)))


class TestNumbers(Checker):
    def test_form(self):
        hall = Hall()
        self.check(hall, ("form a 2 0 2", "ok"), ("form form -0 0 2", "refused"), ("form form 140 -600 600", "ok"),
                    ("form abcdefgh 2 0 0", "ok"))
        self.refuse(hall, "form abcdefghi 2 0 0", "form A 2 0 2", "form a1 2 0 2", "form a 1 0 2", "form a 2 2 0", "form a 02 0 2",
                    "form a +2 0 2", "form a 2 0",
                    "form a 2 0 2 2", "form a 2 00 2", "form a 2 0 x", "form a 2 0 2.", "form a", "form", "form a 141 0 2",
                                "form a 2 -601 2", "form a- 2 0 2", "form a - 0 2",
                    "form a 2 - 2", "form a 2 0 -", "form a 2 0 0-", "form a 2 0 --1")
        self.check(hall, ("let x 3p2", "x = 3p2 -"), ("bits a x", "00111"), ("form a 3 0 2", "ok"), ("bits a x", "001010"))

    def test_let_and_show(self):
        hall = Hall()
        for text in ("13p-4", "-13p4", "0", "-0", "inf", "-inf", "nan", "12p0", "0p5", "-00p-3"):
            self.check(hall, (f"let x {text}", f"x = {show(read_number(text))} -"), ("show x", show(read_number(text))))
        self.refuse(hall, "let x +inf", "let x 1", "let x 1p", "let x 1p2001", "let x 1e5", "let x", "let x 1p0 1p0", "let", "show",
                    "show y", "show x x", "let X 1p0",
                    "let x1 1p0", "let  1p0", "let x  1p0")
        self.check(hall, ("show x", "-0"))

    def test_read(self):
        hall = hall_after()
        for text in ("5", "0.1", "-13e0", "1e9", "-0", "nan", "inf", "1e-9"):
            for mode in ("even", "away", "zero", "up", "down", "odd"):
                x, flags = read(TINY, text, mode=mode)
                self.check(hall, (f"read r a {mode} {text}", f"r = {show(x)} {','.join(flags) or '-'}"), ("show r", show(x)))
        self.assertEqual(hall.flags, ("overflow", "underflow", "inexact"))
        self.refuse(hall, "read r a even 1e", "read r a x 1", "read r c even 1", "read r a even", "read r a even 1 1",
                    "read r even a 1", "read r a even +nan",
                    "read r a even 1e1501")

    def test_do(self):
        hall = hall_after()
        for op, many in {"add": 2, "sub": 2, "mul": 2, "div": 2, "muladd": 3, "root": 1, "convert": 1, "minus": 1, "size": 1}.items():
            names = ["z", "x", "y"][:many]
            values = [read_number({"x": "3p1", "y": "1p0", "z": "-3p-1"}[name]) for name in names]
            for mode in ("even", "up", "odd"):
                x, flags = deed(op, TINY, *values, mode=mode)
                self.check(hall, (f"do r {op} a {mode} {' '.join(names)}", f"r = {show(x)} {','.join(flags) or '-'}"))
            wrong = [" ".join(["x"] * k) for k in (1, 2, 3, 4) if k != many]
            self.refuse(hall, *[f"do r {op} a even {told}" for told in wrong])
        self.refuse(hall, "do r rest a even x y", "do r add a x x y", "do r add c even x y", "do r add a even x q",
                    "do r add a even", "do r add", "do", "do R add a even x y",
                    "do r add a even x y ", "do r add a even x y y y y")
        self.check(hall, ("do x mul a even x x", "x = inf overflow,inexact"), ("do x div a even i i", "x = nan invalid"))

    def test_rests_whole_scale(self):
        hall = hall_after("let p 7p0", "let q 1p1")
        self.check(hall, ("rest r p q", "r = -1p0 -"), ("cutrest r p q", "r = 1p0 -"), ("rest p p q", "p = -1p0 -"), ("rest r i q",
                    "r = nan invalid"),
                   ("cutrest r x o", "r = nan invalid"), ("rest r x i", "r = 3p1 -"))
        x, flags = whole(read_number("-3p-1"), mode="odd")
        self.check(hall, ("whole r odd z", f"r = {show(x)} {','.join(flags)}"), ("whole r even z", "r = -1p1 inexact"),
                    ("whole r up n", "r = nan -"))
        for k in (-2000, -1, 0, 2, 2000):
            x, flags = scale(TINY, read_number("3p1"), k, mode="up")
            self.check(hall, (f"scale r a up x {k}", f"r = {show(x)} {','.join(flags) or '-'}"))
        self.refuse(hall, "scale r a up x 2001", "scale r a up x 01", "scale r a up x", "scale r a up x 1 1", "scale r q up x 1",
                    "whole r x z", "whole r even",
                    "whole r even q q", "rest r x", "rest r x y z", "rest r x k", "cutrest r k x", "scale r a up k 1",
                                "scale r a up x k", "scale r a up x -0")
        hall.line("let k 1p2000")
        hall.line("let m 3p1999")
        self.assertEqual(hall.line("rest r k m"), "r = -1p1999 -")

    def test_flags_and_clear(self):
        hall = hall_after()
        self.check(hall, ("flags", "-"), ("do r div a even x o", "r = -inf divzero"), ("flags", "divzero"), ("read r a even 1e-9",
                    "r = 0 underflow,inexact"),
                   ("do r div a even o o", "r = nan invalid"), ("flags",
                               "invalid,divzero,underflow,inexact"), ("do r add a even y y", "r = 1p1 -"),
                   ("flags", "invalid,divzero,underflow,inexact"))
        self.assertEqual(hall.flags, ("invalid", "divzero", "underflow", "inexact"))
        self.check(hall, ("clear", "ok"), ("flags", "-"))
        self.assertEqual(hall.flags, ())
        many = hall.many
        self.check(hall, ("clear", "ok"), ("flags", "-"))
        self.assertEqual(hall.many, many + 1)
        self.check(hall, ("undo", "ok"), ("flags", "-"), ("undo", "ok"), ("flags", "invalid,divzero,underflow,inexact"))
        self.refuse(hall, "flags x", "clear x", "undo x", "flags ", " clear", "Flags")


class TestChainsAndSums(Checker):
    def test_chains(self):
        hall = hall_after("chain c b even a even", "chain d a up")
        self.check(hall, ("run r c x", "r = 3p1 -"), ("run r d z", "r = -1p0 underflow,inexact"), ("run r d o", "r = 0 -"),
                    ("let k 5p-3", "k = 5p-3 -"),
                   ("run r c k", "r = 0 underflow,inexact"), ("run r d k", "r = 1p0 underflow,inexact"))
        self.refuse(hall, "run r c i", "run r c n", "run r e x", "run r c", "run r c x x", "run r x c", "chain e", "chain e a",
                    "chain e a up b", "chain e a x", "chain e q up",
                    "chain e up a", "chain E a up", "chain e a up a", "chain e" + 7 * " a up")
        self.check(hall, ("chain e" + 6 * " a up", "ok"), ("run r e k", "r = 1p0 underflow,inexact"), ("chain e a down", "ok"),
                    ("run r e k", "r = 0 underflow,inexact"))

    def test_steps_of_chains_in_order(self):
        forms = {"a": (2, 0, 2), "b": (4, -2, 2), "l": (3, -1, 2)}
        hall = hall_after("form l 3 -1 2", "let k 17p-4")
        found = []
        for steps in (["a up"], ["b up", "a down"], ["b down", "a up"], ["l up", "a up"], ["l down", "a up"], ["l up", "a down"],
                    ["b up", "l down", "a up"], ["l up", "a away"],
                      ["a down", "l odd", "b away", "a zero", "l up", "b even"]):
            chain = tuple((forms[step.split()[0]], step.split()[1]) for step in steps)
            x, flags = run_chain(chain, (17, 16, 1))
            found.append(x)
            self.check(hall, (f"chain e {' '.join(steps)}", "ok"), ("run r e k", f"r = {show(x)} {','.join(flags)}"))
        self.assertEqual(len(set(found)), 2)

    def test_chains_keep_their_formats(self):
        hall = hall_after("chain c a even", "let k 5p0")
        self.check(hall, ("run r c k", "r = 1p2 inexact"), ("form a 9 -9 9", "ok"), ("run r c k", "r = 1p2 inexact"),
                    ("chain d a even", "ok"), ("run r d k", "r = 5p0 -"),
                   ("ask house c d", "refused"), ("ask house c c", "holds"))

    def test_sums(self):
        hall = hall_after("gather s", "gather t")
        self.check(hall, ("close r s a even", "r = 0 -"), ("close r s a down", "r = -0 -"), ("put s x", "ok"), ("put s y", "ok"),
                    ("close r s b even", "r = 7p0 -"),
                   ("take s z", "ok"), ("close r s b even", "r = 1p3 inexact"), ("close r s b zero", "r = 1p3 inexact"))
        self.check(hall, ("putmul t x z", "ok"), ("close r t b even", "r = -9p0 -"), ("merge s t", "ok"), ("close r s b even",
                    "r = -1p-1 -"), ("close r t b even", "r = -9p0 -"),
                   ("merge s s", "ok"), ("close r s b even", "r = -1p0 -"), ("put s i", "ok"), ("close r s b even",
                               "r = inf -"), ("take s i", "ok"),
                   ("close r s b even", "r = nan invalid"), ("put t n", "ok"), ("close r t a up", "r = nan -"), ("putmul t o i",
                               "ok"), ("gather t", "ok"),
                   ("putmul t o i", "ok"), ("close r t a up", "r = nan invalid"))
        self.refuse(hall, "put s", "put s x y", "put q x", "put x s", "put s q", "take s q", "putmul s x", "putmul s x q",
                    "putmul q x y", "merge s x", "merge s q", "merge q s",
                    "merge s", "gather", "gather S", "gather s t", "close r s a x", "close r s q even", "close r x a even",
                                "close r s a", "close r s a even x")

    def test_replacing_sums_by_name(self):
        hall = hall_after("gather s", "put s x", "gather t", "merge t s", "gather s")
        self.check(hall, ("close r s b even", "r = 0 -"), ("close r t b even", "r = 3p1 -"), ("undo", "ok"), ("undo", "ok"),
                    ("undo", "ok"), ("close r s b even", "r = 3p1 -"))

    def test_too_many_parts(self):
        hall = hall_after("gather s", "put s y")
        for _ in range(16):
            self.assertEqual(hall.line("merge s s"), "ok")
        self.refuse(hall, "merge s s")
        self.check(hall, ("form w 53 0 9", "ok"), ("close r s w even", "r = 1p16 -"))


class TestSpans(Checker):
    def test_spans(self):
        hall = hall_after("span u a y x", "let m -inf", "span v b z i")
        self.check(hall, ("span w b z o", "w = -3p-1 0"), ("span w a m i", "w = -inf inf"), ("holds u y", "yes"), ("holds u x",
                    "yes"), ("holds u z", "no"), ("holds v z", "yes"),
                   ("holds w o", "yes"), ("span u a x x", "u = 3p1 3p1"), ("holds u y", "no"))
        self.refuse(hall, "span u a x y", "span u a z x", "span u a i i", "span u a n x", "span u a y", "span u a y x x",
                    "span u q y x", "span u a y q", "span U a y x",
                    "holds u i", "holds u n", "holds u", "holds u x x", "holds x u", "holds q x")

    def test_spando(self):
        hall = hall_after("span u a y x", "span v b z y", "span k b z z", "span e a o o")
        self.check(hall, ("spando w add a u v", "w = -1p0 1p3"), ("spando w sub b u v", "w = 0 15p-1"), ("spando w mul a u v",
                    "w = -3p2 3p1"),
                   ("spando w div a u v", "w = -inf inf"), ("spando w muladd b u u v", "w = -1p-1 5p3"), ("spando w root a u",
                               "w = 1p0 3p0"),
                   ("spando w convert a v", "w = -1p1 1p0"), ("spando w minus b v", "w = -1p0 3p-1"), ("spando w size b v",
                               "w = 0 3p-1"), ("spando u add a u u", "u = 1p1 3p2"))
        self.refuse(hall, "spando w root b k", "spando w div a u e", "spando w add a u", "spando w add a u v u",
                    "spando w root a u u", "spando w add a", "spando w least a u v",
                    "spando w add q u v", "spando w add a u x", "spando w add", "spando W add a u v", "spando w add a u v u u",
                                "spando w muladd a u v")
        self.check(hall, ("spando w div b k u", "w = -3p-2 0"))


class TestShowing(Checker):
    def test_bits_short_figures_compare(self):
        hall = hall_after()
        self.check(hall, ("bits a x", bits(TINY, (0, 3, 1))), ("bits a o", "10000"), ("bits a i", "01000"), ("bits a n", "01001"),
                    ("short a even x", "6e0"),
                   ("short a zero x", shortest(TINY, (0, 3, 1), five="zero")), ("short a even i", "inf"), ("short a down o",
                               "-0e0"), ("figures 3 even x", "600e-2"),
                   ("figures 1 up z", figures_text((1, 3, -1), 1, five="up")[0]), ("figures 60 even n", "nan"), ("compare x y",
                               "more"), ("compare y x", "less"),
                   ("compare x x", "same"), ("compare x n", "apart"), ("compare o o", "same"))
        self.refuse(hall, "bits a z", "bits a", "bits x a", "bits a x x", "short a even z", "short a odd x", "short a x",
                    "short a even", "figures 0 even x", "figures 61 even x",
                    "figures 01 even x", "figures 3 odd x", "figures 3 even", "figures x even x", "figures 3 even q", "compare x",
                                "compare x y z", "compare x a")

    def test_asks(self):
        hall = hall_after("chain c b even a even", "chain d a even")
        for line, question in [("ask table a even b odd", ("table", (2, 0, 2), "even", (4, -2, 2), "odd")),
                    ("ask table a even b even", ("table", (2, 0, 2), "even", (4, -2, 2), "even")),
                               ("ask house c d", ("house", (((4, -2, 2), "even"), ((2, 0, 2), "even")), (((2, 0, 2), "even"),))),
                               ("ask door add even 4 6", ("door", "add", "even", 4, 6)), ("ask door root away 3 4", ("door", "root",
                                           "away", 3, 4)),
                               ("ask door div even 4 8", ("door", "div", "even", 4, 8)), ("ask sumdoor a b even", ("sumdoor", (2, 0,
                                           2), (4, -2, 2), "even")),
                               ("ask orders a down 3 2 0", ("orders", (2, 0, 2), 3, 2, 0, "down")), ("ask orders a even 5 3 1",
                                           ("orders", (2, 0, 2), 5, 3, 1, "even")),
                               ("ask split mul b up", ("split", "mul", (4, -2, 2), "up")), ("ask split add a even", ("split", "add",
                                           (2, 0, 2), "even")),
                               ("ask difference a 3 1", ("difference", (2, 0, 2), 3, 1)), ("ask difference a 5 3", ("difference",
                                           (2, 0, 2), 5, 3)),
                               ("ask trip b 2 up down 3 30", ("trip", (4, -2, 2), 2, 3, 30, "up",
                                           "down")), ("ask trip b 2 even away 1 9", ("trip", (4, -2, 2), 2, 1, 9, "even", "away"))]:
            self.check(hall, (line, answer_text(question, ask(question))))
        self.refuse(hall, "ask", "ask x", "tell table a even b odd", "asks house c d", "table a even b odd", "ask through c d",
                    "ask standin a", "ask agree", "ask within", "ask spans", "ask table", "ask table a odd b even", "ask table a even b x",
                    "ask table a even b", "ask table a even b odd x", "ask table x even b odd", "ask house c", "ask house c q",
                                "ask house c d d", "ask house a b",
                    "ask door sub even 4 6", "ask door add up 4 6", "ask door add even 4 3", "ask door add even 69 70",
                                "ask door add even 4 06", "ask door add even 4",
                    "ask sumdoor b a even", "ask sumdoor a b odd", "ask orders a even 2 3 1", "ask orders a even 5 3 2",
                                "ask orders a even 5 3", "ask orders a x 5 3 1",
                    "ask split div a up", "ask split sub a even", "ask split a mul even", "ask difference a 1 3",
                                "ask difference a 0 1", "ask difference a 3",
                    "ask trip b 2 odd even 1 9", "ask trip b 0 even even 1 9", "ask trip b 2 even even 9 1",
                                "ask trip b 2 even even 1", "ask trip b 2 even even 1 9 9")


class TestLines(Checker):
    def test_shapes_of_lines(self):
        hall = hall_after()
        self.refuse(hall, "", " ", "  ", " let x 1p0", "let x 1p0 ", "let  x 1p0", "x", "LET x 1p0", "letx 1p0", "let x=1p0", "?",
                    "ok", "refused", "hall", "let x 1p0  ")
        for word in WORDS:
            if word not in ("clear", "flags", "undo"):
                self.refuse(hall, word)
            self.refuse(hall, word + " ", word + "  x", word + " 1", word + 9 * " x" + " ", word.upper())

    def test_length(self):
        hall = Hall()
        longest = "let x " + "0" * (300 - 9) + "1p0"
        self.assertEqual(len(longest), 300)
        self.check(hall, (longest, "x = 1p0 -"), ("let x 0" + longest[6:], "refused"), ("x" * 301, "refused"), ("x" * 700, "refused"))
        for text, at in [("x" * 701, 700), (None, 0), (True, 0), (0, 0), (["let"], 0), (("let x 1p0",), 0)]:
            before = (list(hall), len(hall), hall.many)
            assert_at(self, at, hall.line, text)
            self.assertEqual((list(hall), len(hall), hall.many), before)

    def test_names_that_are_words(self):
        hall = Hall()
        for word in WORDS:
            self.check(hall, (f"let {word} 3p1", f"{word} = 3p1 -"), (f"show {word}", "3p1"), (f"form {word} 2 0 2", "ok"),
                        (f"bits {word} {word}", "00101"),
                       (f"gather {word}", "ok"), (f"put {word} {word}", "ok"), (f"close {word} {word} {word} even", f"{word} = 3p1 -"),
                       (f"span {word} {word} {word} {word}", f"{word} = 3p1 3p1"), (f"chain {word} {word} even",
                                   "ok"), (f"run {word} {word} {word}", f"{word} = 3p1 -"))

    def test_each_table_has_names_of_its_own(self):
        hall = hall_after("form k 2 0 2", "let l 1p0", "gather m", "span p a y x", "chain q a even")
        self.refuse(hall, "show k", "show m", "show p", "show q", "bits l x", "bits m x", "put k x", "put l x", "put p x",
                    "put q x", "holds k x", "holds l x", "holds q x",
                    "run r k x", "run r l x", "run r p x", "close r l a even", "spando w size a q", "chain r l even")

    def test_replacing_each_kind(self):
        hall = hall_after("gather s", "put s x", "span u a y x", "chain c a even")
        self.check(hall, ("form a 3 0 2", "ok"), ("bits a x", "000110"), ("let x 5p0", "x = 5p0 -"), ("show x", "5p0"), ("gather s",
                    "ok"), ("close r s a even", "r = 0 -"),
                   ("span u a x x", "u = 5p0 5p0"), ("holds u y", "no"), ("chain c a down", "ok"), ("let k 9p0",
                               "k = 9p0 -"), ("run r c k", "r = 1p3 inexact"))
        for _ in range(11):
            hall.line("undo")
        self.assertEqual(hall.line("bits a x"), "00101")

    def test_the_answers(self):
        hall = Hall()
        told = [hall.line(line) for line in START + ["show q", "flags", "undo", "undo", "show i"]]
        self.assertEqual(list(hall), told)
        self.assertEqual(list(hall), told)
        self.assertEqual(len(hall), len(told))
        list(hall).append(None)
        self.assertEqual(list(hall), told)
        self.assertEqual(told[-3:], ["ok", "ok", "refused"])

    def test_four_hundred_lines(self):
        hall = Hall()
        for k in range(400):
            self.assertNotEqual(hall.line(["let x 1p0", "undo", "nothing", "flags"][k % 4]), None)
        before = (list(hall), len(hall), hall.many, hall.flags)
        self.assertEqual(len(hall), 400)
        for text in ("let x 1p0", "undo", "", "x" * 700):
            self.assertEqual(assert_refused(self, TooMany, hall.line, text).limit, 400)
        # A text that is none goes first.
        assert_at(self, 700, hall.line, "x" * 701)
        assert_at(self, 0, hall.line, None)
        self.assertEqual((list(hall), len(hall), hall.many, hall.flags), before)


class TestUndo(Checker):
    CHANGES = ["form a 5 0 2", "form e 2 0 2", "chain c a up", "chain w a up", "gather s", "gather w", "put s x", "take s x",
                "putmul s x z", "merge s t", "merge s s",
               "clear", "let x 1p9", "let w 1p9", "read x a even 5", "read w b up 0.1", "do x add a even x x",
                           "do w div a even x o", "rest x x y", "cutrest w x y",
               "whole z even z", "scale x a up x 5", "close x s a even", "close w t a even", "run x c x", "span u a y y",
                           "span w a y y", "spando u add a u u", "spando w size a u"]
    LINES = ["chain c b even a even", "chain d a down", "gather s", "put s x", "gather t", "putmul t y z", "span u a y x",
                "read k a even 5"]

    def test_each_kind_of_line(self):
        hall = hall_after(*self.LINES)
        before = state_of(hall)
        for line in self.CHANGES:
            many = hall.many
            self.assertNotEqual(hall.line(line), "refused", line)
            self.assertEqual(hall.many, many + 1)
            self.check(hall, ("undo", "ok"))
            self.assertEqual(hall.many, many)
            self.assertEqual(state_of(hall), before, line)

    def test_several_in_a_row(self):
        hall = hall_after(*self.LINES)
        states = []
        for line in self.CHANGES:
            states.append(state_of(hall))
            self.assertNotEqual(hall.line(line), "refused", line)
            # What is refused or shown is not taken back.
            hall.line("let X 1p0")
            hall.line("show x")
        for before in reversed(states):
            self.check(hall, ("show x", hall.line("show x")), ("undo", "ok"))
            self.assertEqual(state_of(hall), before)
        many = hall.many
        for _ in range(many):
            self.check(hall, ("undo", "ok"))
        self.assertEqual((hall.many, hall.flags), (0, ()))
        self.refuse(hall, "undo", "show x", "bits a x", "undo")

    def test_nothing_left(self):
        hall = Hall()
        self.refuse(hall, "undo", "show x", "let X 1p0", "undo")
        self.check(hall, ("clear", "ok"), ("undo", "ok"), ("undo", "refused"), ("let x 1p0", "x = 1p0 -"), ("undo", "ok"),
                    ("show x", "refused"), ("undo", "refused"))

    def test_undo_cannot_be_taken_back(self):
        hall = Hall()
        self.check(hall, ("let x 1p0", "x = 1p0 -"), ("let x 1p1", "x = 1p1 -"), ("undo", "ok"), ("show x", "1p0"), ("undo", "ok"),
                    ("show x", "refused"), ("undo", "refused"))


def state_of(hall):
    """What a copy of the hall shows, so that the hall itself answers nothing."""
    copy = Hall()
    copy._tables = {kind: {name: told.twin() if kind == "sum" else told for name, told in table.items()} for kind,
                table in hall._tables.items()}
    copy._flags = hall._flags
    return state(copy)


class TestRunScript(Checker):
    def test_example(self):
        self.assertEqual(run_script(["form a 2 0 2", "read x a even 5", "undo", "show x"]), ["ok", "x = 1p2 inexact", "ok", "refused"])

    def test_against_a_hall(self):
        lines = START + ["gather s", "put s x", "close r s b even", "undo", "show r", "?"]
        kept = list(lines)
        hall = Hall()
        self.assertEqual(run_script(lines), [hall.line(line) for line in lines])
        self.assertEqual(lines, kept)
        self.assertEqual(run_script([]), [])
        self.assertEqual(run_script(["let x 1p0"] * 200), ["x = 1p0 -"] * 200)
        self.assertEqual(run_script(["x" * 700, ""]), ["refused", "refused"])

    def test_refusals(self):
        for wrong in (None, True, 0, "let x 1p0", ("let x 1p0",), ()):
            assert_at(self, 0, run_script, wrong)
        self.assertEqual(assert_refused(self, TooMany, run_script, ["x"] * 201).limit, 200)
        self.assertEqual(assert_refused(self, TooMany, run_script, [None] * 201).limit, 200)
        for wrong, at in [([None], 0), (["x", 1], 0), (["x" * 701], 700), (["x" * 701, None], 700), ([None, "x" * 701], 0),
                    (["x"] * 199 + [True], 0), ([["x"]], 0)]:
            assert_at(self, at, run_script, wrong)


class TestShape(unittest.TestCase):
    def test_what_the_class_defines(self):
        for name in ("line", "__init__", "__iter__", "__len__", "flags", "many"):
            self.assertIn(name, vars(Hall))
        for name in ("flags", "many"):
            self.assertIsInstance(vars(Hall)[name], property)
        hall = Hall()
        self.assertEqual((hall.flags, hall.many, len(hall), list(hall)), ((), 0, 0, []))
        self.assertRaises(BadText, hall.line, None)
