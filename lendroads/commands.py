"""The lines that a console knows."""

from lendroads.errors import InvalidCommand
from lendroads.rules import is_name
from lendroads.texts import is_number

TRIAL = "trial "
BETWEEN = " ; "
MOST_DIGITS = 30

# By the first word, what may follow: N stands for a name, L for a length, C for a count of steps.
FORMS = {
    "node": ("N",),
    "drop": ("N",),
    "edge": ("NNNL",),
    "cut": ("N",),
    "length": ("NL",),
    "undo": ("", "C"),
    "redo": ("", "C"),
    "calm": ("",),
    "far": ("NN", "N"),
    "least": ("", "N", "NN", "NNN", "NNNN"),
    "fall": ("N",),
    "show": ("",),
}


def commands_of(line):
    """The list of the commands, (word, names and numbers ..), of any value; raises InvalidCommand if it is no line."""
    if not isinstance(line, str):
        raise InvalidCommand(line)
    parts = line.removeprefix(TRIAL).split(BETWEEN) if is_trial(line) else [line]
    commands = []
    for part in parts:
        words = part.split(" ")
        if not _is_command(words):
            raise InvalidCommand(line)
        commands.append(tuple([word if is_name(word) else int(word) for word in words]))
    return commands


def is_trial(line):
    """True if a line is about a trial."""
    return line.startswith(TRIAL)


def _is_command(words):
    """True if these words are a command."""
    word, *more = words
    if word == "table":
        return all([is_name(one) for one in more])
    return any([_has_form(more, form) for form in FORMS.get(word, ())])


def _has_form(words, form):
    """True if the words are of these kinds."""
    return len(words) == len(form) and all([_is_kind(word, kind) for word, kind in zip(words, form)])


def _is_kind(word, kind):
    """True if a word is of this kind."""
    if kind == "N":
        return is_name(word)
    if not is_number(word) or len(word.removeprefix("-")) > MOST_DIGITS:
        return False
    return kind == "L" or int(word) > 0
