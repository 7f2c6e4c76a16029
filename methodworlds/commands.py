"""The forms of the commands of a console."""

from methodworlds.words import is_name, is_number_word

# For each command but "line" the kinds of the words behind it.
FORMS = {
    "clear": ("name",),
    "show": ("name",),
    "ends": ("name", "name", "number", "number"),
    "plan": ("name", "name", "number", "number", "numbers"),
    "ways": ("name", "name", "number", "number", "numbers", "number"),
    "stuck": ("name", "name", "number", "number"),
    "same": ("name", "number", "name", "number"),
    "within": ("name", "number", "name", "number"),
    "nodes": ("name", "number"),
    "fewest": ("name", "number"),
}


def has_kind(word, kind):
    if kind == "name":
        return is_name(word)
    if kind == "number":
        return is_number_word(word)
    return all([is_number_word(each) for each in word.split(",")])


def value_of(word, kind):
    """What a word of this kind tells: a name as it is, an integer, or a list of integers."""
    if kind == "name":
        return word
    if kind == "number":
        return int(word)
    return [int(each) for each in word.split(",")]


def read_command(command):
    """The first word of a command and a list of what it tells behind it; None if the command has none of the forms."""
    if command.startswith("line "):
        # The line itself may have blanks anywhere, and may be empty.
        _, name, *line = command.split(" ", 2)
        return ("line", [name, *line]) if is_name(name) and line else None
    word, *others = command.split(" ")
    kinds = FORMS.get(word, ())
    if word not in FORMS or len(kinds) != len(others):
        return None
    if not all([has_kind(other, kind) for other, kind in zip(others, kinds)]):
        return None
    return (word, [value_of(other, kind) for other, kind in zip(others, kinds)])
