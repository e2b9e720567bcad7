"""Hidden jumps: a card of which only some jumps are known, and what was seen of it."""

from leapcard.cards import Card
from leapcard.choices import Choices, card_of_all
from leapcard.errors import InvalidSight
from leapcard.judging import is_row

# how many rows a sight has behind its word
SIGHT_ROWS = {"leads": 2, "stuck": 1, "down": 2, "never": 2}


def is_sight(sight, signs):
    """Whether this is a sight with rows over the signs."""
    if not isinstance(sight, tuple) or len(sight) == 0 or not isinstance(sight[0], str):
        return False
    word, *rows = sight
    if len(rows) != SIGHT_ROWS.get(word, -1) or not all([is_row(row, signs) for row in rows]):
        return False
    return len(rows[0]) == len(rows[-1])


class Hidden:
    """Known jumps, candidates that may be on the card, and the sights that tell which ones are."""

    def __init__(self, worths, candidates, known=()):
        self.choices = Choices(card_of_all(worths, candidates, known), candidates)
        self.candidates = tuple(candidates)
        self.surely_known = tuple(known)
        self.seen = []
        self.fitting = self.choices.every

    def see(self, *sights):
        """Add sights, or none if one of them is refused."""
        signs = self.choices.whole.sign_string(walls=True)
        for sight in sights:
            if not is_sight(sight, signs):
                raise InvalidSight(sight)
        fitting = self.fitting
        for sight in sights:
            fitting = fitting & self.truth(sight)
        self.fitting = fitting
        self.seen.extend(list(sights))

    def truth(self, sight):
        """The choices for whose cards a sight is true."""
        word, *rows = sight
        if word == "stuck":
            return self.choices.every ^ self.choices.moving(rows[0])
        row, end = rows
        if word == "leads":
            return self.choices.leading(row, end)
        reaching = self.choices.reaching(row, end)
        return reaching if word == "down" else self.choices.every ^ reaching

    @property
    def sights(self):
        """A new list of the sights in the order in which they were added."""
        return list(self.seen)

    def fits(self):
        """The ascending list of the choices for whose cards all sights are true."""
        return self.choices.chosen(self.fitting)

    def surely_on(self):
        """The ascending list of the candidates in all choices that fit."""
        found = self.fits()
        return [index for index in range(len(self.candidates)) if all([index in choice for choice in found])]

    def surely_off(self):
        """The ascending list of the candidates in no choice that fits."""
        found = self.fits()
        return [index for index in range(len(self.candidates)) if not any([index in choice for choice in found])]

    def undecided(self):
        """The ascending list of the candidates in some choices that fit, but not in all of them."""
        decided = self.surely_on() + self.surely_off()
        return [index for index in range(len(self.candidates)) if index not in decided]

    def card_of(self, choice):
        """The card of a choice: the known jumps, and then the chosen candidates."""
        if choice not in self.choices.listed:
            raise InvalidSight(choice)
        return Card(self.choices.whole.worths, [*self.surely_known, *[self.candidates[index] for index in choice]])

    def question(self, length):
        """The row of at most this length that splits the choices that fit most evenly by being stuck, or None."""
        total = len(self.fits())
        found = []
        for bits, row in self.choices.first_rows(length).items():
            moving = len(self.choices.chosen(self.fitting & bits))
            if 0 < moving < total:
                uneven = total - 2 * moving
                found.append((abs(uneven), len(row), row))
        _, _, best = min(found, default=(0, 0, None))
        return best
