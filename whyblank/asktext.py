"""The text of an ask, there and back."""

from whyblank.asks import PARTS, Ask, is_answer, is_word_for
from whyblank.errors import InvalidText
from whyblank.forms import names_of
from whyblank.fractions import is_figures


def words_of(phrase):
    """The words of a test or a worth, and of all that follows in it."""
    words = []
    for part in phrase:
        words = words + (words_of(part) if isinstance(part, tuple) else [str(part)])
    return words


def ask_text(ask):
    """The text of an ask."""
    return " ".join(words_of(ask.worth) + ["given"] + words_of(ask.given))


def read_ask(form, value):
    """The ask of a form with this text."""
    if not isinstance(value, str):
        raise InvalidText(-1)
    words, kinds = value.split(" "), []
    # What has still to be told, the next thing last; whatever is left can be told somehow.
    left = ["test", "given", "worth"]
    for at, word in enumerate(words):
        if not left or not is_word_of(form, left[-1], words[at - 1], word):
            raise InvalidText(at)
        kinds.append(left.pop())
        if kinds[at] in ("test", "worth"):
            left = left + list(reversed(PARTS[word]))
    if left:
        raise InvalidText(len(words))
    return ask_with(words, kinds)


def ask_with(words, kinds):
    """The ask of right words, each of a known kind."""
    # Going back, all that follows a word stands on top already, in its order.
    heap = []
    for word, kind in zip(words[::-1], kinds[::-1]):
        if kind in ("test", "worth"):
            heap.append((word,) + tuple([heap.pop() for _ in PARTS[word]]))
        elif kind != "given":
            heap.append(word if kind == "name" else int(word))
    return Ask(heap[1], heap[0])


def is_word_of(form, kind, ahead, word):
    """Whether a word may stand, behind another one, where this kind of thing is told."""
    if kind == "given":
        return word == "given"
    if kind == "name":
        return word in names_of(form)
    if kind == "integer":
        return is_integer_text(word)
    if kind == "answer":
        return is_integer_text(word) and is_answer(form, ahead, int(word))
    return is_word_for(kind, word)


def is_integer_text(word):
    """Whether a word is an integer in figures, with no zeros ahead."""
    figures = word.removeprefix("-")
    return is_figures(figures) and str(int(word)) == word
