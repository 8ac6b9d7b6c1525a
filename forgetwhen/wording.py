"""Texts as rows of words, read from the first word to the last one."""

from forgetwhen.errors import InvalidText

LETTERS = "abcdefghijklmnopqrstuvwxyz"
FIGURES = "0123456789"
LONGEST_NUMBER = 6


def stretch_end(text, begin, signs):
    """Where a stretch of such signs ends."""
    end = begin
    while end < len(text) and text[end] in signs:
        end += 1
    return end


def words_of(text):
    """Pairs (word, where it begins): letters side by side, figures side by side, each other sign but the blank."""
    words = []
    at = 0
    while at < len(text):
        end = max(at + 1, stretch_end(text, at, LETTERS), stretch_end(text, at, FIGURES))
        if text[at] != " ":
            words.append((text[at:end], at))
        at = end
    return words


def number_of(word):
    """The number that a word is, or None: none, one with a needless 0, or greater than all that are wanted."""
    if word == "" or len(word) > LONGEST_NUMBER or stretch_end(word, 0, FIGURES) < len(word):
        return None
    if word[0] == "0" and len(word) > 1:
        return None
    return int(word)


class Wording:
    """The words of a text (any value) that were not taken yet; whatever is not wanted raises where it begins."""

    def __init__(self, text):
        if not isinstance(text, str):
            raise InvalidText(-1)
        self._words = words_of(text)
        self._ends = len(text)
        self._taken = 0

    def next_word(self):
        """The next word, or an empty one: the text ends."""
        if self._taken == len(self._words):
            return ""
        return self._words[self._taken][0]

    def next_number(self):
        """The next word as a number, or None."""
        return number_of(self.next_word())

    def need(self, fits):
        """Raises, unless the next word fits."""
        if fits:
            return
        if self._taken == len(self._words):
            raise InvalidText(self._ends)
        raise InvalidText(self._words[self._taken][1])

    def take(self, *wanted):
        """The next word, one of these."""
        word = self.next_word()
        self.need(word in wanted)
        self._taken += 1
        return word

    def take_number(self, least, limit):
        """The next word as a number from the least on, below the limit."""
        number = self.next_number()
        self.need(number is not None and least <= number < limit)
        self._taken += 1
        return number

    def take_among(self, numbers):
        """The next word as a number, one of these."""
        number = self.next_number()
        self.need(number in numbers)
        self._taken += 1
        return number

    def take_numbers(self, many, limit):
        """So many numbers below the limit."""
        return tuple(self.take_number(0, limit) for _ in range(many))

    def take_end(self):
        self.need(self.next_word() == "")
