"""Commands: the lines of calls, there and back."""

from whyblank.charttext import node_text, node_with
from whyblank.errors import InvalidCommand
from whyblank.fractions import figures_of, is_figures
from whyblank.study import PARTS, is_deed

MOST_FIGURES = 9


def part_words(kind, part):
    """The words of a part of a deed where this kind of thing is told."""
    if kind == "name":
        return [part]
    if kind == "node":
        return [node_text(part)]
    if kind == "stretch":
        return [part[0], node_text(part[1]), node_text(part[2])]
    if kind == "sheet":
        return ["." if answer == -1 else figures_of(answer) for answer in part]
    return [figures_of(part)]


def deed_line(deed):
    """The line of a deed."""
    words = [deed[0]]
    for kind, part in zip(PARTS[deed[0]], deed[1:]):
        words = words + part_words(kind, part)
    return " ".join(words)


def call_line(call):
    """The line of a call."""
    if call[0] == "batch":
        return "all " + "; ".join([deed_line(deed) for deed in call[1]]) if call[1] else "all"
    return call[0] if call[0] in ("undo", "redo") else deed_line(call)


def number_read(word):
    """The number with these figures."""
    if not is_figures(word) or len(word) > MOST_FIGURES or figures_of(int(word)) != word:
        raise InvalidCommand()
    return int(word)


def part_read(kind, words):
    """The part of a deed with these words, where this kind of thing is told; it may turn out to be none."""
    if kind == "sheet":
        return tuple([-1 if word == "." else number_read(word) for word in words])
    if len(words) != words_for(kind):
        raise InvalidCommand()
    if kind == "name":
        return words[0]
    if kind == "node":
        return node_with(words[0])
    if kind == "stretch":
        return (words[0], node_with(words[1]), node_with(words[2]))
    return number_read(words[0])


def words_for(kind):
    """How many words a part has that is no sheet."""
    return 3 if kind == "stretch" else 1


def deed_read(line):
    """The deed with this line."""
    words = line.split(" ")
    if words[0] not in PARTS:
        raise InvalidCommand()
    deed, left = (words[0],), words[1:]
    for kind in PARTS[words[0]]:
        many = len(left) if kind == "sheet" else words_for(kind)
        deed, left = deed + (part_read(kind, left[:many]),), left[many:]
    if left or not is_deed(deed):
        raise InvalidCommand()
    return deed


def read_call(value):
    """The call with this line."""
    if not isinstance(value, str):
        raise InvalidCommand()
    if value in ("undo", "redo"):
        return (value,)
    if value == "all":
        return ("batch", ())
    if value.startswith("all "):
        return ("batch", tuple([deed_read(line) for line in value.removeprefix("all ").split("; ")]))
    return deed_read(value)
