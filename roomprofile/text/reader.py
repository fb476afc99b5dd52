"""Reading a text from its begin to its end."""

from roomprofile.errors import ParseError


class Reader:
    """A text, and the place up to which it is read."""

    def __init__(self, text):
        if not isinstance(text, str):
            raise ParseError("this is not a string")
        self.text = text
        self.place = 0

    def has_taken(self, sign):
        """Reads this sign or word if the text goes on with it, and returns whether it does."""
        if not self.text.startswith(sign, self.place):
            return False
        self.place += len(sign)
        return True

    def take(self, sign):
        """Reads this sign or word."""
        if not self.has_taken(sign):
            raise ParseError("the text does not go on as it has to")

    def take_end(self):
        """Makes sure that there is nothing more to read."""
        if self.place != len(self.text):
            raise ParseError("the text goes on behind its end")

    def take_letters(self):
        """Reads lowercase letters, as many as there are, and returns them."""
        return self._take_run("a", "z")

    def take_integer(self, most_digits):
        """Reads an integer of at most so many digits."""
        negative = self.has_taken("-")
        digits = self._take_run("0", "9")
        if not 1 <= len(digits) <= most_digits:
            raise ParseError("this is not an integer, or too long a one")
        if digits[0] == "0" and (negative or len(digits) > 1):
            raise ParseError("an integer does not begin with 0, nor is there -0")
        return -int(digits) if negative else int(digits)

    def _take_run(self, least, greatest):
        """Reads signs as long as they are between these two."""
        begin = self.place
        while self.place < len(self.text) and least <= self.text[self.place] <= greatest:
            self.place += 1
        return self.text[begin:self.place]
