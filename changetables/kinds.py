"""Kinds of changes: how many letters a change takes, and what it puts in their place."""

from changetables.errors import BadKinds


class Kinds:
    """Kinds of changes by their names."""

    def __init__(self, told):
        if not has_names(told):
            raise BadKinds(None)
        names = sorted(told)
        for at, name in enumerate(names):
            if not is_kind(told[name]) or told[name] in [told[early] for early in names[:at]]:
                raise BadKinds(name)
        self.told = {name: told[name] for name in names}

    def __getitem__(self, at):
        if at not in self:
            raise BadKinds(at)
        return self.told[at]

    def __iter__(self):
        raise TypeError("kinds are not walked over: take names()")

    def __contains__(self, x):
        return isinstance(x, str) and x in self.told

    def __len__(self):
        return len(self.told)

    def __eq__(self, other):
        return isinstance(other, Kinds) and self.told == other.told

    def names(self):
        """The names, ascending."""
        return list(self.told)

    def growth(self, name):
        """How many letters more a text has behind a change of this kind."""
        width, row = self[name]
        return len(row) - width


def check_kinds(kinds):
    """Raise BadKinds unless these are Kinds."""
    if not isinstance(kinds, Kinds):
        raise BadKinds(None)


def needs_letter(kinds, name):
    """Whether changes of this kind put a letter of their own."""
    return "new" in kinds[name][1]


def is_whole(number):
    """Whether this is an integer, which booleans are not."""
    return isinstance(number, int) and not isinstance(number, bool)


def has_names(told):
    """Whether this is a dict of 1 to 4 names."""
    return isinstance(told, dict) and 1 <= len(told) <= 4 and all([is_name(name) for name in told])


def is_name(name):
    """Whether this is a word of 1 to 8 small letters."""
    return (isinstance(name, str) and 1 <= len(name) <= 8
            and name.isascii() and name.isalpha() and name.islower())


def is_kind(kind):
    """Whether this is a pair of a width and a row for it."""
    if not (isinstance(kind, tuple) and len(kind) == 2):
        return False
    width, row = kind
    return is_whole(width) and 0 <= width <= 2 and is_row(width, row)


def is_row(width, row):
    """Whether this is a row for a kind of this width."""
    if not (isinstance(row, tuple) and all([is_part(width, part) for part in row])):
        return False
    # As no part stands there twice, a row has at most three of them.
    if len(set(row)) < len(row):
        return False
    if width == 0:
        return row == ("new",)
    return row == () or (row[0] != 0 and row[-1] != width - 1)


def is_part(width, part):
    """Whether this may stand in the row of a kind of this width."""
    if isinstance(part, str):
        return part == "new"
    return is_whole(part) and 0 <= part < width
