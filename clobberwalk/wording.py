"""The words of one line, to be read from left to right [42]."""

from clobberwalk.errors import ParseError
from clobberwalk.forms import GREATEST, SIZES, is_name, is_number
from clobberwalk.limits import Limits
from clobberwalk.parts import ARGS_AT

# No integer from -10 ** 40 to 10 ** 40 has more digits.
MOST_DIGITS = 41

# Where in an if the second block stands, and the word that stands before it in the line.
SECOND_GOAL_AT = 4
BETWEEN_GOALS = "/"


def integer_of(word):
    """Tell the integer that a word is written for, None if it is none."""
    digits = word[1:] if word.startswith("-") else word
    # Only decimal digits, and so few of them, may be made an integer.
    if len(digits) > MOST_DIGITS or not digits.isascii() or not digits.isdigit():
        return None
    number = int(word)
    return number if str(number) == word and is_number(number) else None


class Words:
    """The words of the line with some number; at is the index of the word that is due."""

    def __init__(self, line, text):
        self.line = line
        self.words = text.split(" ")
        self.at = 0

    def due(self):
        """Tell the word that is due, None behind the last one."""
        return self.words[self.at] if self.at < len(self.words) else None

    def need(self, fits):
        """Raise ParseError if the word that is due does not fit, or there is none."""
        if self.at == len(self.words) or not fits:
            raise ParseError(self.line, self.at)

    def take_if(self, fits):
        """Take the word that is due if it fits; ParseError if not, or if there is none."""
        self.need(fits)
        self.at += 1
        return self.words[self.at - 1]

    def take_name(self):
        """Take a name."""
        return self.take_if(is_name(self.due()))

    def take_integer(self):
        """Take an integer."""
        return self._take_integer_from(-GREATEST)

    def take_index(self):
        """Take an integer from 0 on."""
        return self._take_integer_from(0)

    def _take_integer_from(self, least):
        number = None if self.due() is None else integer_of(self.due())
        self.take_if(number is not None and number >= least)
        return number

    def take_names(self, most):
        """Take the names that follow, at most so many; equal ones are found later."""
        found = []
        while len(found) < most and is_name(self.due()):
            found.append(self.take_name())
        return tuple(found)

    def take_thing(self):
        """Take an instruction or an end, from its first word on."""
        word = self.take_if(self.due() in SIZES)
        parts = [word]
        for at in range(1, SIZES[word]):
            if word in ARGS_AT and at in ARGS_AT[word]:
                parts.append(self.take_names(Limits.MOST_BLOCK_PARAMETERS))
                continue
            if word == "if" and at == SECOND_GOAL_AT:
                self.take_if(self.due() == BETWEEN_GOALS)
            parts.append(self.take_integer() if word == "num" and at == 2 else self.take_name())
        return tuple(parts)

    def finish(self):
        """Raise ParseError if a word is left."""
        if self.at < len(self.words):
            raise ParseError(self.line, self.at)


def line_of(thing):
    """Make the line of an instruction or an end."""
    words = []
    for at, part in enumerate(thing):
        if thing[0] == "if" and at == SECOND_GOAL_AT:
            words.append(BETWEEN_GOALS)
        if isinstance(part, tuple):
            words.extend(part)
        else:
            words.append(str(part))
    return " ".join(words)
