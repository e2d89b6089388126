"""Claims about formulas: the texts of a claim, read, and what a certificate says of them."""

from thirdback.beginnings import Beginning
from thirdback.errors import InvalidFacts, InvalidFormulas
from thirdback.formulas import Formula
from thirdback.kinds import Kind
from thirdback.limits import MOST_FACTS, MOST_FORMULAS
from thirdback.mergings import classes_by_mergings
from thirdback.tables import all_parts, in_classes, operation_triples


class Question:
    """A kind, facts and formulas, read from their texts; some WrongValue is raised where they are none."""

    def __init__(self, kind, facts, texts):
        self._kind = Kind.read(kind)
        self._facts = [(Formula.read(one), Formula.read(other)) for one, other in _checked_facts(facts)]
        sides = [side for fact in self._facts for side in fact]
        self._parts = all_parts(sides + [Formula.read(text) for text in texts])
        # The operations of a claim stand in the order of the parts.
        self._triples = operation_triples(self._parts)

    def classes_after(self, mergings):
        """A dict from the text of each part to its class after these mergings; None if one of them is wrong."""
        texts = [str(part) for part in self._parts]
        equal = [(texts.index(str(one)), texts.index(str(other))) for one, other in self._facts]
        classes = classes_by_mergings(self._kind, len(texts), self._triples, equal, mergings)
        if classes is None:
            return None
        return {text: classes[at] for at, text in enumerate(texts)}

    def operations_in(self, classes):
        """The triples of the operations, of these classes."""
        return in_classes(self._triples, [classes[str(part)] for part in self._parts])

    def values_with(self, size, triples, contents):
        """A dict from the text of each part to its value with these contents in the beginning with these triples.

        None if they are not those of just the letters, if a value is not known, or if a fact does not hold; some
        WrongValue is raised if they are no contents at all.
        """
        beginning = Beginning(self._kind, size, triples)
        values = {str(part): beginning.value(part, contents) for part in self._parts}
        letters = [part.name for part in self._parts if part.name is not None]
        if [name for name, _ in contents] != letters or any([values[text] is None for text in values]):
            return None
        if any([values[str(one)] != values[str(other)] for one, other in self._facts]):
            return None
        return values


def checked_kept(kept):
    """The texts of kept formulas; raises InvalidFormulas if they are no tuple or too many."""
    if not isinstance(kept, tuple) or len(kept) > MOST_FORMULAS:
        raise InvalidFormulas(None)
    return kept


def _checked_facts(facts):
    """The pairs of texts; raises InvalidFacts if they are no tuple of pairs or too many."""
    if not isinstance(facts, tuple) or len(facts) > MOST_FACTS:
        raise InvalidFacts(None)
    if not all([isinstance(fact, tuple) and len(fact) == 2 for fact in facts]):
        raise InvalidFacts(None)
    return facts
