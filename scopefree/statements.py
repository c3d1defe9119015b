"""What a single line of a program says."""

SCOPE_LINES = {
    "{": ("block",),
    "if ? {": ("if",),
    "} else {": ("else",),
    "while ? {": ("while",),
    "}": ("end",),
}
DIGITS = "0123456789"
MOST_DIGITS = 3


def lines_of(text):
    """Tells the lines of a text; only line feeds part them, only spaces ahead are dropped."""
    stripped = [line.lstrip(" ") for line in text.split("\n")]
    return tuple([line for line in stripped if line != ""])


def statement_of(line):
    """Tells what a line says as a tuple, or None if it says nothing."""
    if line in SCOPE_LINES:
        return SCOPE_LINES[line]
    if line.startswith("print ") and is_variable(line[6:]):
        return ("print", line[6:])
    if is_variable(line[:1]) and line[1:4] == " = ":
        return assignment_of(line[0], line[4:])
    return None


def assignment_of(name, value):
    """Tells what giving the written value to a variable says, or None."""
    if is_variable(value):
        return ("copy", name, value)
    if is_number(value):
        return ("number", name, int(value))
    if is_variable(value[:1]) and value[1:] in (".head", ".tail"):
        return (value[2:], name, value[0])
    first = value[1:2]
    second = value[4:5]
    if is_variable(first) and is_variable(second) and value == f"[{first}, {second}]":
        return ("pair", name, first, second)
    return None


def is_variable(word):
    """Tells if a text is the name of a variable."""
    return len(word) == 1 and "a" <= word <= "z"


def is_number(word):
    """Tells if a text is a number; isdigit would take the digits of other scripts, too."""
    if not 1 <= len(word) <= MOST_DIGITS:
        return False
    if word[0] == "0" and word != "0":
        return False
    return all(sign in DIGITS for sign in word)


def variables_of(statements):
    """Tells the letters of all variables that statements name, ascending, as one text."""
    named = {word for statement in statements for word in statement[1:] if isinstance(word, str)}
    return "".join(sorted(named))
