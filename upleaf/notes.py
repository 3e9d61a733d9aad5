"""Cards, deeds and rooms as texts."""

from upleaf.cards import Card
from upleaf.errors import BadText, CardError, RoomError
from upleaf.room import Room

# What is handed to each deed: `a` for a name, `1` for a number, `-` for a number or none.
SHAPES = {
    "cut": "a111",
    "push": "a11",
    "slit": "a11",
    "glue": "a1-",
    "mirror": "a",
    "turn": "a",
    "beside": "aa",
    "part": "a1a",
    "burn": "a",
    "keep": "aa",
    "drop": "a",
}


def is_number(word):
    return len(word) <= 2 and word.isdecimal() and str(int(word)) == word


def read_number(word):
    if not is_number(word):
        raise BadText()
    return int(word)


def read_slit(word):
    edge, dot, at = word.partition(".")
    return read_number(edge), read_number(at)


def read_card(text):
    """The card that has this text."""
    first, *others = text.split(" ")
    slits = [read_slit(word) for word in others]
    try:
        card = Card(first.split("/"), slits)
    except CardError:
        raise BadText() from None
    # Slits that are told twice, or don't rise, make a card of another text.
    if str(card) != text:
        raise BadText()
    return card


def deed_line(deed):
    return " ".join(["-" if part is None else str(part) for part in deed])


def line_words(line):
    """The words of a line, or none where it isn't written as lines are."""
    words = line.split(" ")
    return [] if "" in words or "\n" in line else words


def read_handed(word, shape):
    if shape == "a":
        return word
    if shape == "-" and word == "-":
        return None
    return read_number(word)


def read_deed(line):
    """The deed, as a tuple, that has this line."""
    words = line_words(line)
    if not words or words[0] not in SHAPES:
        raise BadText()
    shapes = SHAPES[words[0]]
    if len(words) != len(shapes) + 1:
        raise BadText()
    handed = [read_handed(word, shape) for word, shape in zip(words[1:], shapes)]
    return (words[0], *handed)


def written(room):
    """The lines of the deeds that count, a line feed behind each."""
    return "".join([deed_line(deed) + "\n" for deed in room.deeds()])


def read_room(text):
    """A new room in which the deeds of the text are done."""
    *rows, rest = text.split("\n")
    room = Room()
    for at, row in enumerate(rows):
        try:
            room.do(read_deed(row))
        except (CardError, RoomError):
            raise BadText(at) from None
    if rest != "":
        raise BadText(len(rows))
    return room


def tidy_row(row):
    return " ".join([word for word in row.split(" ") if word != ""])


def tidy(text):
    """The text without needless blanks and rows, a line feed behind each row."""
    rows = [tidy_row(row) for row in text.split("\n")]
    return "".join([row + "\n" for row in rows if row != ""])
