"""Lines of texts that tell kinds, tables and runs: the words, numbers and signs in them, read from left to right."""

from changetables.houses import BadScript

SIGN = ":"
BLANK = " "
REMARK = "#"
MINUS = "-"
MOST_FIGURES = 18


class Line:
    """A line that is read: its things, pairs of a column and a word, a number or the sign."""

    def __init__(self, number, text):
        self.number = number
        self.things = things_of(text)
        self.end = len(text) + 1
        self.at = 0

    def is_over(self):
        """Whether all things are read."""
        return self.at == len(self.things)

    def next_column(self):
        """The column of the next thing; one behind the end of the line, if all are read."""
        return self.end if self.is_over() else self.things[self.at][0]

    def next_thing(self):
        """The next thing; None, if it is none, or if all are read."""
        return None if self.is_over() else self.things[self.at][1]

    def take(self, allowed):
        """Read the next thing, which is one of those that are allowed."""
        thing = self.next_thing()
        if thing not in allowed:
            raise BadScript(self.number, self.next_column())
        self.at = self.at + 1
        return thing

    def take_number(self, barred):
        """Read a number that is none of those that are barred."""
        thing = self.next_thing()
        if not isinstance(thing, int) or thing in barred:
            raise BadScript(self.number, self.next_column())
        self.at = self.at + 1
        return thing

    def close(self):
        """Nothing more may stand in the line."""
        if not self.is_over():
            raise BadScript(self.number, self.next_column())


class Script:
    """A text that is read line by line, without the lines in which nothing stands."""

    def __init__(self, text):
        if not isinstance(text, str):
            raise BadScript(0, 0)
        rows = text.split("\n")
        lines = [Line(at + 1, row) for at, row in enumerate(rows)]
        self.lines = [line for line in lines if not line.is_over()]
        self.after = len(rows) + 1
        self.at = 0

    def is_over(self):
        """Whether all lines are read."""
        return self.at == len(self.lines)

    def next_begins(self, word):
        """Whether there is a line to be read that begins with a word."""
        return not self.is_over() and self.lines[self.at].next_thing() == word

    def next_line(self):
        """The next line, which must be there."""
        if self.is_over():
            raise BadScript(self.after, 1)
        self.at = self.at + 1
        return self.lines[self.at - 1]

    def close(self):
        """No more lines may stand in the text."""
        if not self.is_over():
            self.lines[self.at].close()


def things_of(text):
    """The things that stand in a line, with their columns, None for what is none: behind it nothing is read."""
    things, at = [], 0
    while at < len(text) and text[at] != REMARK:
        end = end_of_thing(text, at)
        if text[at] != BLANK:
            things.append((at + 1, thing_at(text, at, end)))
            if things[-1][1] is None:
                return things
        at = end
    return things


def end_of_thing(text, at):
    """Where ends what begins at a place: a word, a number, or one other character."""
    if is_small_letter(text[at]):
        return end_of_run(text, at, is_small_letter)
    if is_figure(text[at]) or text[at] == MINUS:
        return end_of_run(text, at + 1, is_figure)
    return at + 1


def end_of_run(text, at, belongs):
    """The first place from here on with a character that does not belong to the others."""
    while at < len(text) and belongs(text[at]):
        at = at + 1
    return at


def thing_at(text, at, end):
    """The word, number or sign between two places; None, if it is none."""
    found = text[at:end]
    if found == SIGN or is_small_letter(found[0]):
        return found
    # Between two numbers, and only there, a space is needed.
    if not is_number(found) or (at > 0 and is_figure(text[at - 1])):
        return None
    return int(found)


def is_number(found):
    """Whether this is a number: figures, not too many, without a zero in front, perhaps behind a minus."""
    figures = found[1:] if found[0] == MINUS else found
    if not (1 <= len(figures) <= MOST_FIGURES and is_figure(figures[0])):
        return False
    return found == "0" or figures[0] != "0"


def is_small_letter(character):
    """Whether this is a letter from a to z."""
    return "a" <= character <= "z"


def is_figure(character):
    """Whether this is a figure from 0 to 9."""
    return "0" <= character <= "9"
