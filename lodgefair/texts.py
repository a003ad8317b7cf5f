"""Fairs written as texts, and read again."""

from lodgefair.errors import BadFair, BadText
from lodgefair.fairs import checked

# No number in a fair goes beyond 5.
NUMBERS = ("0", "1", "2", "3", "4", "5")


def line_of(word, numbers):
    return " ".join([word] + [str(number) for number in numbers]) + "\n"


def shown(fair):
    guest_lines = [line_of("guest", wish) for wish in fair[0]]
    house_lines = [line_of("house", (rooms,) + guests) for rooms, guests in fair[1]]
    return "".join(guest_lines + house_lines)


def number_of(word):
    # None is no number to a fair, so it is refused there.
    return NUMBERS.index(word) if word in NUMBERS else None


def likely_fair(text):
    wishes = []
    houses = []
    for line in text.split("\n"):
        words = line.split(" ")
        numbers = tuple([number_of(word) for word in words[1:]])
        if words[0] == "guest":
            wishes.append(numbers)
        elif words[0] == "house":
            # Without rooms this is a tuple of one, and so no house.
            houses.append(numbers[:1] + (numbers[1:],))
    return (tuple(wishes), tuple(houses))


def read(text):
    if not isinstance(text, str):
        raise BadText("no text")
    try:
        fair = checked(likely_fair(text))
    except BadFair:
        raise BadText("no fair is written here") from None
    # Lines that were passed over, or stood in another order, show here.
    if shown(fair) != text:
        raise BadText("not as a fair is written")
    return fair
