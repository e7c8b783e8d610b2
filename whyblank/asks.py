"""Asks: the mean worth among those for whom a test holds."""

from whyblank.errors import InvalidAsk, Refused
from whyblank.forms import answers_of, names_of, place_of
from whyblank.fractions import over, times, total_of, whole
from whyblank.kinds import is_int

# What follows each word with which a test or a worth begins.
PARTS = {
    "all": (),
    "is": ("name", "answer"),
    "blank": ("name",),
    "not": ("test",),
    "both": ("test", "test"),
    "either": ("test", "test"),
    "number": ("integer",),
    "answer": ("name",),
    "if": ("test",),
    "plus": ("worth", "worth"),
    "times": ("worth", "worth"),
}
TEST_WORDS = ("all", "is", "blank", "not", "both", "either")


class Ask:
    """A worth, and a test of those who are asked for."""

    def __init__(self, worth, given):
        self.worth = worth
        self.given = given

    def __eq__(self, other):
        return isinstance(other, Ask) and self.worth == other.worth and self.given == other.given


def is_word_for(kind, value):
    """Whether any value is a word with which a "test" or a "worth" begins."""
    if not isinstance(value, str) or value not in PARTS:
        return False
    return (value in TEST_WORDS) == (kind == "test")


def is_answer(form, name, value):
    """Whether any value is an answer to the question with this name."""
    return is_int(value) and 0 <= value < answers_of(form, name)


def is_phrase(form, kind, value):
    """Whether any value is a "test" or a "worth" of a form."""
    if not isinstance(value, tuple) or len(value) == 0 or not is_word_for(kind, value[0]):
        return False
    parts = PARTS[value[0]]
    if len(value) != len(parts) + 1:
        return False
    for at, part in enumerate(parts):
        if not is_right_part(form, part, value[at], value[at + 1]):
            return False
    return True


def is_right_part(form, part, ahead, value):
    """Whether any value is a part of this kind of a test or a worth, behind what stands ahead of it."""
    if part == "name":
        return value in names_of(form)
    if part == "answer":
        return is_answer(form, ahead, value)
    if part == "integer":
        return is_int(value)
    return is_phrase(form, part, value)


def ask_fault(form, value):
    """What is wrong with any value as an ask, as `need_ask` tells it; None if nothing is."""
    if not isinstance(value, Ask):
        return -1
    if not is_phrase(form, "worth", value.worth):
        return 0
    return None if is_phrase(form, "test", value.given) else 1


def need_ask(form, value):
    """Raises `InvalidAsk` for what is no ask of a form."""
    fault = ask_fault(form, value)
    if fault is not None:
        raise InvalidAsk(fault)


def is_ask(form, value):
    """Whether any value is an ask of a form."""
    return ask_fault(form, value) is None


def holds(form, test, lot, truth):
    """Whether a test holds for a lot and a truth."""
    word = test[0]
    if word == "all":
        return True
    if word == "is":
        return truth[place_of(form, test[1])] == test[2]
    if word == "blank":
        return test[1] in lot
    if word == "not":
        return not holds(form, test[1], lot, truth)
    if word == "both":
        return holds(form, test[1], lot, truth) and holds(form, test[2], lot, truth)
    return holds(form, test[1], lot, truth) or holds(form, test[2], lot, truth)


def worth_of(form, worth, lot, truth):
    """A worth for a lot and a truth, an integer."""
    word = worth[0]
    if word == "number":
        return worth[1]
    if word == "answer":
        return truth[place_of(form, worth[1])]
    if word == "if":
        return int(holds(form, worth[1], lot, truth))
    one, other = worth_of(form, worth[1], lot, truth), worth_of(form, worth[2], lot, truth)
    return one + other if word == "plus" else one * other


def is_given(form, ask, lot, truth):
    """Whether an ask's test holds for a lot and a truth."""
    return holds(form, ask.given, lot, truth)


def worth_at(form, ask, lot, truth):
    """An ask's worth for a lot and a truth, whether its test holds or not."""
    return worth_of(form, ask.worth, lot, truth)


def mean_of(pairs):
    """The mean of pairs (share, worth), each worth an integer; `Refused` if there are none."""
    if not pairs:
        raise Refused("nobody")
    total = total_of([share for share, _ in pairs])
    return over(total_of([times(share, whole(worth)) for share, worth in pairs]), total)


def answer_by(book, ask):
    """The mean worth among those in a book for whom an ask's test holds."""
    form = book.form
    asked = [triple for triple in book.shares if is_given(form, ask, triple[0], triple[1])]
    return mean_of([(share, worth_at(form, ask, lot, truth)) for lot, truth, share in asked])


def asks_blanks(phrase):
    """Whether a test of a blank stands in a test or a worth, at any depth."""
    return phrase[0] == "blank" or any([isinstance(part, tuple) and asks_blanks(part) for part in phrase])


def is_plain(ask):
    """Whether an ask asks of truths alone."""
    return not asks_blanks(ask.worth) and not asks_blanks(ask.given)
