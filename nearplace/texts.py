"""Orders, reaches and wishes written as texts, and read back."""

from nearplace.errors import NoText
from nearplace.orders import check_order, check_reach, is_order, is_reach
from nearplace.wishes import check_wishes, is_wishes

NOTHING = "none"
MOST_FIGURES = 2
MOST_IN_WISHES = 99


def is_figures(word, most):
    """Whether the word writes a whole number by at most so many figures, without a 0 ahead."""
    # Python takes figures of other scripts for digits, too.
    if not word.isascii() or not word.isdigit() or len(word) > most:
        return False
    return word == "0" or not word.startswith("0")


def numbers_text(numbers):
    return " ".join([str(number) for number in numbers])


def sides_text(sides):
    """A left and a right side; they may be above what a reach has."""
    left, right = sides
    return f"{left},{right}"


def wish_text(wish):
    word, thing, place = wish
    return f"{word} {thing} {place}"


def order_text(order):
    check_order(order)
    return numbers_text(order) if order else NOTHING


def reach_text(reach):
    check_reach(reach)
    return sides_text(reach)


def wishes_text(wishes):
    check_wishes(wishes, MOST_IN_WISHES)
    return "; ".join([wish_text(wish) for wish in wishes]) if wishes else NOTHING


def check_writes(writes):
    if not writes:
        raise NoText("the text does not write what is to be read")


def parts_of(text, between):
    """The parts of a text, none where it writes that there is nothing."""
    return [] if text == NOTHING else text.split(between)


def read_numbers(words):
    check_writes(all(is_figures(word, MOST_FIGURES) for word in words))
    return [int(word) for word in words]


def read_as_wish(text):
    """A tuple as a wish is one, but perhaps of another word or another length."""
    word, *numbers = text.split(" ")
    return (word,) + tuple(read_numbers(numbers))


def read_order(text):
    check_writes(isinstance(text, str))
    order = read_numbers(parts_of(text, " "))
    check_writes(is_order(order))
    return order


def read_reach(text):
    check_writes(isinstance(text, str))
    reach = tuple(read_numbers(text.split(",")))
    check_writes(is_reach(reach))
    return reach


def read_wishes(text):
    check_writes(isinstance(text, str))
    wishes = [read_as_wish(part) for part in parts_of(text, "; ")]
    check_writes(is_wishes(wishes, MOST_IN_WISHES))
    return wishes
