"""Reading a line of a text, word by word from its left, as texts of nets and rooms are read."""

from justthepart.errors import BadText
from justthepart.nets import FIGURES, MOST_NUMBER, SIGNS, is_name
from justthepart.polys import fraction

MOST_FIGURES = 4


class Row:
    """A line of a text, of which so many signs are done."""

    def __init__(self, line, text):
        self.line = line
        self.text = text.partition("#")[0]
        self.done = 0

    def refuse(self, at):
        """Raise BadText for what stands behind so many signs of the line."""
        raise BadText(self.line, at + 1)

    def refuse_end(self):
        """Raise BadText for the end of the line."""
        self.refuse(len(self.text))

    def is_over(self):
        """Go on to the next word; return whether there is none."""
        while self.text[self.done:self.done + 1] == " ":
            self.done += 1
        return self.done == len(self.text)

    def begin(self):
        """Go on to the next word, which must stand there."""
        if self.is_over():
            self.refuse_end()

    def finish(self):
        """Leave a word, behind which a blank or the end must stand."""
        if self.text[self.done:self.done + 1] not in ("", " "):
            self.refuse(self.done)

    def finish_line(self):
        """Leave the line, on which no word more may stand."""
        if not self.is_over():
            self.refuse(self.done)

    def ahead(self, signs):
        """Return the row of signs of a kind that stands next."""
        end = self.done
        while end < len(self.text) and self.text[end] in signs:
            end += 1
        return self.text[self.done:end]

    def read_word(self, words):
        """Read one of some words."""
        self.begin()
        word = self.ahead(SIGNS)
        if word not in words:
            self.refuse(self.done)
        self.done += len(word)
        self.finish()
        return word

    def refuse_words(self, words):
        """Refuse the word that stands next if it is one of some words."""
        self.begin()
        if self.ahead(SIGNS) in words:
            self.refuse(self.done)

    def bare_name(self):
        """Read a name, whatever stands right behind it."""
        self.begin()
        name = self.ahead(SIGNS)
        if not is_name(name):
            self.refuse(self.done)
        self.done += len(name)
        return name

    def read_name(self):
        """Read a name."""
        name = self.bare_name()
        self.finish()
        return name

    def bare_number(self, least):
        """Read the number, least or more, that stands right here, whatever stands right behind it."""
        figures = self.ahead(FIGURES)
        if not 1 <= len(figures) <= MOST_FIGURES or figures[0] == "0" and figures != "0":
            self.refuse(self.done)
        number = int(figures)
        if not least <= number <= MOST_NUMBER:
            self.refuse(self.done)
        self.done += len(figures)
        return number

    def read_number(self):
        """Read a number."""
        self.begin()
        number = self.bare_number(0)
        self.finish()
        return number

    def read_fraction(self):
        """Read an F, as a fraction in least form."""
        self.begin()
        above = self.bare_number(0)
        below = 1
        if self.text[self.done:self.done + 1] == "/":
            self.done += 1
            below = self.bare_number(1)
        self.finish()
        return fraction(above, below)

    def read_breaker(self, lines):
        """Read a breaker: of one of these lines with an end, of anything else without."""
        name = self.bare_name()
        start = self.done - len(name)
        behind = self.text[self.done:self.done + 2]
        has_end = behind in (".0", ".1")
        if name in lines and not has_end and behind[:1] == ".":
            self.refuse(self.done + 1)
        if (name in lines) != has_end:
            self.refuse(start)
        if has_end:
            self.done += 2
        self.finish()
        return (name, int(behind[1])) if has_end else (name, 0)


def rows_of(text):
    """Return the list of the lines of a text, to be read."""
    return [Row(at + 1, line) for at, line in enumerate(text.split("\n"))]
