"""Halls [52], which read lines, keep what they name, and answer each line with a text."""

from everyrounding.checks import check_text
from everyrounding.errors import BadText, Refused, TooMany
from everyrounding.lines import TABLES, acted, flag_words, meanings_of, number_line, span_line, table_given, words_of
from everyrounding.rounding import joined

MOST_LINES = 400
MOST_MEMBERS = 200


class Hall:
    """Five tables of names, the flags seen, and what each changing line replaced."""

    def __init__(self):
        self._tables = {table: {} for table in TABLES}
        self._flags = ()
        self._answers = []
        self._past = []

    def _give(self, table, name, value, flags):
        """Give the name in the table, join the flags, and keep what was there before."""
        known = self._tables[table]
        self._past.append((table, name, known.get(name, None), self._flags))
        known[name] = value
        self._flags = joined(self._flags, flags)

    def _given(self, table, name, result):
        """The answer of a line that gives what it found a name."""
        if table == "number":
            x, flags = result
            self._give(table, name, x, flags)
            return number_line(name, x, flags)
        self._give(table, name, result, ())
        return span_line(name, result) if table == "span" else "ok"

    def _clear(self):
        """Forget the flags."""
        self._past.append((None, None, None, self._flags))
        self._flags = ()
        return "ok"

    def _undo(self):
        """Bring back what the last changing line replaced."""
        if not self._past:
            raise BadText(0)
        table, name, value, flags = self._past.pop()
        self._flags = flags
        if table is not None:
            known = self._tables[table]
            if value is None:
                known.pop(name)
            else:
                known[name] = value
        return "ok"

    def _answer(self, text):
        """The answer to a line; refuse a wrong line before anything is changed."""
        words = words_of(text)
        told = meanings_of(words, self._tables)
        word = words[0]
        if word == "clear":
            return self._clear()
        if word == "undo":
            return self._undo()
        if word == "flags":
            return flag_words(self._flags)
        result = acted(word, told)
        table = table_given(word)
        return result if table is None else self._given(table, words[1], result)

    def line(self, text):
        """The answer to a line, refused for one that is wrong."""
        check_text(text)
        if len(self._answers) == MOST_LINES:
            raise TooMany(MOST_LINES)
        try:
            told = self._answer(text)
        except Refused:
            told = "refused"
        self._answers.append(told)
        return told

    def __iter__(self):
        return iter(self._answers)

    def __len__(self):
        return len(self._answers)

    @property
    def flags(self):
        """The flags seen since the start or the last clear."""
        return self._flags

    @property
    def many(self):
        """How many lines undo could take back."""
        return len(self._past)


def run_script(lines):
    """The answers of a new hall to the lines."""
    if type(lines) is not list:
        raise BadText(0)
    if len(lines) > MOST_MEMBERS:
        raise TooMany(MOST_MEMBERS)
    for text in lines:
        check_text(text)
    hall = Hall()
    return [hall.line(text) for text in lines]
