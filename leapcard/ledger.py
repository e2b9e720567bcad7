"""A ledger of facts about a hidden card and a lot, and what follows from them."""

from leapcard.beside import is_whole
from leapcard.cards import Card
from leapcard.checks import fits_card
from leapcard.choices import card_of_all
from leapcard.errors import InvalidFact, Unlike
from leapcard.judging import is_row
from leapcard.leaps import Leaps
from leapcard.proofs import Proof

# how many rows a fact has behind its word
FACT_ROWS = {"leads": 2, "stuck": 1, "down": 1, "never": 1}


class Ledger:
    """Facts that were told about which candidates are on the card, and about rows."""

    def __init__(self, worths, candidates, lot):
        whole = card_of_all(worths, candidates, ())
        if not fits_card(whole, lot.signs):
            raise Unlike(lot.signs)
        self.worths = whole.worths
        self.candidates = whole.jumps
        self.lot = lot
        self.leaps = [Leaps(Card(worths, [jump]), "row") for jump in candidates]
        self.given = {}
        self.proof = None

    def has_form(self, fact):
        """Whether this is a fact that can be told."""
        if not isinstance(fact, tuple) or len(fact) < 2 or not isinstance(fact[0], str):
            return False
        word, *parts = fact
        if word in ("on", "off"):
            return len(parts) == 1 and is_whole(parts[0]) and 0 <= parts[0] < len(self.candidates)
        if len(parts) != FACT_ROWS.get(word, -1) or not all([is_row(row, self.lot.signs) for row in parts]):
            return False
        if word != "leads":
            return True
        return any([after == parts[1] for leaps in self.leaps for _, after in leaps.steps_of(parts[0])])

    def tell(self, *facts):
        """Add facts, or none if one of them is refused."""
        for fact in facts:
            if not self.has_form(fact):
                raise InvalidFact(fact)
        for fact in facts:
            self.given[fact] = True
        self.proof = None

    def take_back(self, fact):
        """Remove a fact that was told."""
        if not self.has_form(fact) or fact not in self.given:
            raise InvalidFact(fact)
        self.given = {other: True for other in self.given if other != fact}
        self.proof = None

    @property
    def told_facts(self):
        """The ascending list of the facts that were told."""
        return sorted(list(self.given))

    def proven(self):
        """The proof of all known facts, which is made when it is asked for."""
        if self.proof is None:
            self.proof = Proof(self.leaps, self.lot, sorted(list(self.given)))
        return self.proof

    def closed(self):
        """The ascending list of all known facts."""
        return sorted(self.proven().queue)

    def knows(self, fact):
        """Whether the fact was told or follows from what was told."""
        return self.has_form(fact) and self.proven().knows(fact)

    def clashes(self):
        """The ascending list of the known facts that contradict each other, two by two."""
        proof = self.proven()
        found = []
        for fact in proof.queue:
            if fact[0] == "off" and proof.knows(("on", fact[1])):
                found.append((fact, ("on", fact[1])))
            if fact[0] == "down" and proof.knows(("never", fact[1])):
                found.append((fact, ("never", fact[1])))
            if fact[0] == "leads" and proof.knows(("stuck", fact[1])):
                found.append((fact, ("stuck", fact[1])))
        return sorted(found)

    def why(self, fact):
        """Steps (fact, rule, sources) that lead to the fact from what was told; None if it is not known."""
        if not self.knows(fact):
            return None
        return self.proven().steps_to(fact)

    def twin(self):
        """An independent copy."""
        other = Ledger(self.worths, self.candidates, self.lot)
        facts = list(self.given)
        other.tell(*facts)
        return other
