"""A reader that goes through a text from left to right."""

from lookdone.errors import BadText
from lookdone.kinds import LETTERS, is_name, is_value

DIGITS = "0123456789"

# No value has more signs, and Python refuses to make numbers of very many.
LONGEST_VALUE = 20


class Reader:
    """A text and the place up to which it was read; what does not fit raises BadText(0)."""

    def __init__(self, text):
        self.text = text
        self.place = 0

    def is_next(self, piece):
        """Whether the text goes on with the piece."""
        return self.text.startswith(piece, self.place)

    def is_any_next(self, signs):
        """Whether the text goes on with one of these signs."""
        sign = self.text[self.place:self.place + 1]
        return sign != "" and sign in signs

    def take(self, piece):
        """Read exactly this piece."""
        if not self.is_next(piece):
            raise BadText(0)
        self.place += len(piece)

    def take_any(self, pieces):
        """Read one of these pieces, none of which begins another."""
        for piece in pieces:
            if self.is_next(piece):
                self.take(piece)
                return piece
        raise BadText(0)

    def take_while(self, signs):
        """Read as many of these signs as there are, perhaps none."""
        start = self.place
        while self.is_any_next(signs):
            self.place += 1
        return self.text[start:self.place]

    def take_word(self):
        """Read letters, perhaps none."""
        return self.take_while(LETTERS)

    def take_name(self):
        """Read a name."""
        word = self.take_word()
        if not is_name(word):
            raise BadText(0)
        return word

    def take_value(self):
        """Read a value, written as a text shows it."""
        start = self.place
        if self.is_next("-"):
            self.take("-")
        digits = self.take_while(DIGITS)
        text = self.text[start:self.place]
        if not digits or len(text) > LONGEST_VALUE:
            raise BadText(0)
        number = int(text)
        # Leading zeros and -0 do not come back when the number is written out.
        if str(number) != text or not is_value(number):
            raise BadText(0)
        return number

    def take_end(self):
        """Make sure that nothing is left to read."""
        if self.place != len(self.text):
            raise BadText(0)
