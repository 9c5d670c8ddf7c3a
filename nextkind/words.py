"""The words of a line of a text, as the readers take them."""

from nextkind.checks import is_name
from nextkind.errors import BadLine, BadText


def number_of(word):
    """The number that a word writes as str writes it, None if it writes none."""
    if not (word.isascii() and word.isdigit()) or len(word) > 60:
        return None
    if word[0] == "0" and len(word) > 1:
        return None
    return int(word)


class Words:
    """The words of a line of a text, taken one by one; the first that cannot stand raises BadText."""

    def __init__(self, text, line=0):
        if not isinstance(text, str):
            raise BadText(0, 0)
        self._words = text.split(" ")
        self._line = line
        self._at = 0

    def more(self):
        """Whether words are left."""
        return self._at < len(self._words)

    def peek(self):
        """The next word; the empty one, which cannot stand anywhere, if none is left."""
        return self._words[self._at] if self.more() else ""

    def alone(self, word):
        """Whether this word is all that is left."""
        return self._words[self._at:] == [word]

    def check(self, good):
        """Raise BadText at the next word unless it is good there."""
        if not good:
            raise BadText(self._line, self._at)

    def step(self):
        """Take the next word, whatever it is."""
        word = self.peek()
        self._at = self._at + 1
        return word

    def take_word(self, choices):
        """Take a word that is one of some."""
        self.check(self.peek() in choices)
        return self.step()

    def take_name(self, above=""):
        """Take a name that is above another one (every name is above the empty string)."""
        self.check(is_name(self.peek()) and self.peek() > above)
        return self.step()

    def take_number(self, least, most=None):
        """Take a number from least to most; without most it has no bound but its figures."""
        number = number_of(self.peek())
        self.check(number is not None and least <= number and (most is None or number <= most))
        self.step()
        return number

    def end(self):
        """Raise BadText if a word is left."""
        self.check(not self.more())


class LineWords(Words):
    """The words of a line of the desk; the first that cannot stand raises BadLine."""

    def check(self, good):
        """Raise BadLine at the next word unless it is good there."""
        if not good:
            raise BadLine(self._at)
