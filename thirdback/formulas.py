"""Formulas: letters, and what is made of two formulas by a sign."""

from thirdback.checks import is_name
from thirdback.errors import InvalidFacts, InvalidFormulas, InvalidName, InvalidText, NotAFormula, TooMany
from thirdback.limits import MOST_FACTS, MOST_FORMULAS, MOST_OPERATIONS

SIGNS = ("*", "//", ">>")


def letter(name):
    """The formula that is this letter."""
    if not is_name(name):
        raise InvalidName(name)
    return Formula("", name, None, None)


class Formula:
    """A letter, or two formulas with a sign between them. Formulas never change."""

    def __init__(self, sign, name, left, right):
        self._sign = sign
        self._name = name
        self._left = left
        self._right = right
        self._text = name if left is None else f"({left} {sign} {right})"
        self._signs = () if left is None else left._signs + (sign,) + right._signs
        # The formula itself is left out, so that it does not hold itself.
        self._inner = () if left is None else _in_order(left.parts + right.parts)

    @classmethod
    def read(cls, text):
        """The formula with this text."""
        formula = _parsed(text)
        if formula is None:
            raise InvalidText(text)
        return formula

    @property
    def sign(self):
        """The sign between the two formulas, "" for a letter."""
        return self._sign

    @property
    def name(self):
        """The name of the letter, None if it is none."""
        return self._name

    @property
    def left(self):
        """The formula ahead of the sign, None for a letter."""
        return self._left

    @property
    def right(self):
        """The formula behind the sign, None for a letter."""
        return self._right

    @property
    def letters(self):
        """The ascending tuple of the names of its letters."""
        # Letters come first among the parts, and their texts, by which they ascend, are their names.
        return tuple([part.name for part in self.parts if part.name is not None])

    @property
    def parts(self):
        """Its different parts, those with fewer operations first, then by their texts."""
        return self._inner + (self,)

    def put(self, name, formula):
        """The formula in which each letter with this name is replaced by the other formula."""
        if not is_name(name):
            raise InvalidName(name)
        check_formula(formula)
        return _replaced(self, name, formula)

    def __mul__(self, other):
        return _signed("*", self, other)

    def __floordiv__(self, other):
        return _signed("//", self, other)

    def __rshift__(self, other):
        return _signed(">>", self, other)

    def __contains__(self, value):
        return isinstance(value, Formula) and value in self.parts

    def __len__(self):
        return len(self._signs)

    def __bool__(self):
        return True

    def __eq__(self, other):
        return isinstance(other, Formula) and self._text == other._text

    def __str__(self):
        return str(self._text)


def signed_triple(sign, left, right, made):
    """The triple of an operation, of whatever its two sides and what it makes stand for."""
    if sign == "*":
        return (left, right, made)
    if sign == "//":
        return (made, right, left)
    return (left, made, right)


def step_to(place, triple):
    """The sign and the two sides that make what is at this place of a triple of the two others."""
    first, second, mixed = triple
    if place == 2:
        return ("*", first, second)
    if place == 0:
        return ("//", mixed, second)
    return (">>", first, mixed)


def check_formula(formula):
    """Raises NotAFormula for anything but a Formula."""
    if not isinstance(formula, Formula):
        raise NotAFormula(formula)


def check_formulas(formulas):
    """Raises InvalidFormulas for anything but a tuple of at most six formulas."""
    if not isinstance(formulas, tuple):
        raise InvalidFormulas(None)
    for index, formula in enumerate(formulas):
        if index == MOST_FORMULAS or not isinstance(formula, Formula):
            raise InvalidFormulas(index)


def check_facts(facts):
    """Raises InvalidFacts for anything but a tuple of at most four pairs of formulas."""
    if not isinstance(facts, tuple):
        raise InvalidFacts(None)
    for index, fact in enumerate(facts):
        if index == MOST_FACTS or not _is_fact(fact):
            raise InvalidFacts(index)


def _is_fact(value):
    """Whether it is a pair of formulas."""
    return isinstance(value, tuple) and len(value) == 2 and all([isinstance(side, Formula) for side in value])


def _signed(sign, left, right):
    """The formula with this sign between the two."""
    check_formula(right)
    if len(left) + 1 + len(right) > MOST_OPERATIONS:
        raise TooMany(MOST_OPERATIONS)
    return Formula(sign, None, left, right)


def _replaced(within, name, formula):
    """It with the formula in the place of each letter with this name."""
    if within.name is not None:
        return formula if within.name == name else within
    left = _replaced(within.left, name, formula)
    return _signed(within.sign, left, _replaced(within.right, name, formula))


def _in_order(parts):
    """Each of the parts once, those with fewer operations first, then by their texts."""
    by_text = {str(part): part for part in parts}
    order = sorted([(len(part), text) for text, part in by_text.items()])
    return tuple([by_text[text] for _, text in order])


def _parsed(text):
    """The formula with this text, None if there is none."""
    # Counted ahead, so that nothing is made of texts with thousands of parentheses.
    if not isinstance(text, str) or text.count("(") > MOST_OPERATIONS:
        return None
    stack = []
    for word in text.replace("(", "( ").replace(")", " )").split(" "):
        stack.append(letter(word) if is_name(word) else word)
        if word == ")":
            stack[-5:] = [_closed(stack[-5:])]
    # What the words make counts only if it is written just so.
    if isinstance(stack[0], Formula) and str(stack[0]) == text:
        return stack[0]
    return None


def _closed(words):
    """The formula of a pair of parentheses and what is read between them, None if there is none."""
    if len(words) != 5:
        return None
    start, left, sign, right, _ = words
    if start != "(" or sign not in SIGNS or not isinstance(left, Formula) or not isinstance(right, Formula):
        return None
    return Formula(sign, None, left, right)
