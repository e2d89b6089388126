"""Kinds of rules: the turns under which the triples of a rule stay triples of it."""

from thirdback.checks import is_triple
from thirdback.errors import InvalidFlag, InvalidText, InvalidTriple, InvalidTurns, NotAKind

# Smaller lots stand ahead of larger ones: _least_lot relies on it.
LOTS = {
    "plain": ((0, 1, 2),),
    "sides": ((0, 1, 2), (1, 0, 2)),
    "front": ((0, 1, 2), (2, 1, 0)),
    "back": ((0, 1, 2), (0, 2, 1)),
    "round": ((0, 1, 2), (1, 2, 0), (2, 0, 1)),
    "all": ((0, 1, 2), (0, 2, 1), (1, 0, 2), (1, 2, 0), (2, 0, 1), (2, 1, 0)),
}

# For each place of a triple the two others.
OTHERS = ((1, 2), (0, 2), (0, 1))

_CALM = "calm "


class Kind:
    """A lot of turns, calm or not. Kinds never change."""

    def __init__(self, turns, *, calm=False):
        if not isinstance(turns, str) or turns not in LOTS:
            raise InvalidTurns(turns)
        if calm is not True and calm is not False:
            raise InvalidFlag(calm)
        self._turns = turns
        self._calm = calm

    @classmethod
    def read(cls, text):
        """The kind with this text."""
        if not isinstance(text, str):
            raise InvalidText(text)
        turns = text.removeprefix(_CALM)
        if turns not in LOTS:
            raise InvalidText(text)
        return cls(turns, calm=turns != text)

    @property
    def turns(self):
        """The name of the lot."""
        return self._turns

    @property
    def calm(self):
        """Whether each thing makes a triple with itself."""
        return self._calm

    @property
    def lot(self):
        """The ascending tuple of the turns."""
        return LOTS[self._turns]

    def images(self, triple):
        """The ascending tuple of all different images of a triple of integers."""
        if not is_triple(triple):
            raise InvalidTriple(triple)
        return tuple(sorted({(triple[i], triple[j], triple[k]) for i, j, k in self.lot}))

    def within(self, other):
        """Whether every rule of this kind is a rule of the other one."""
        check_kind(other)
        return _holds(self.lot, other.lot) and (self.calm or not other.calm)

    def __and__(self, other):
        """The kind of the rules that are of both kinds."""
        check_kind(other)
        return Kind(_least_lot(self.lot + other.lot), calm=self.calm or other.calm)

    def __or__(self, other):
        """The kind with the turns that both have, calm if both are."""
        check_kind(other)
        common = tuple([turn for turn in self.lot if turn in other.lot])
        return Kind(_least_lot(common), calm=self.calm and other.calm)

    def __eq__(self, other):
        return isinstance(other, Kind) and self._turns == other._turns and self._calm == other._calm

    def __str__(self):
        if self._calm:
            return f"{_CALM}{self._turns}"
        return str(self._turns)


def check_kind(kind):
    """Raises NotAKind for anything but a Kind."""
    if not isinstance(kind, Kind):
        raise NotAKind(kind)


def _holds(lot, turns):
    """Whether all these turns belong to the lot."""
    return all([turn in lot for turn in turns])


def _least_lot(turns):
    """The name of the smallest lot to which all these turns belong."""
    fitting = [name for name in LOTS if _holds(LOTS[name], turns)]
    return fitting[0]
