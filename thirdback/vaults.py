"""Vaults: boxes that hold things of a rule which is made as it is needed."""

from thirdback.beginnings import Beginning
from thirdback.checks import check_boxes, is_one_of
from thirdback.errors import NothingToUndo, TooMany, UnknownName
from thirdback.formulas import check_formula, signed_triple
from thirdback.kinds import check_kind
from thirdback.limits import MOST_GROWN


class Vault:
    """Boxes of a kind. A vault changes by setting its boxes, by `undo` and at the end of a trial."""

    def __init__(self, kind, boxes):
        check_kind(kind)
        check_boxes(boxes)
        self._boxes = boxes
        self._state = State(Beginning(kind, len(boxes)), {box: thing for thing, box in enumerate(boxes)}, None, None)

    @property
    def beginning(self):
        """The part of the rule that is made by now."""
        return self._state.part

    @property
    def log(self):
        """The pairs (box, text of the formula) of all settings that have not been taken back."""
        settings = []
        state = self._state
        while state.earlier is not None:
            settings.append(state.setting)
            state = state.earlier
        return tuple(settings[::-1])

    def same(self, one, other):
        """Whether the two boxes hold the same thing."""
        return self[one] == self[other]

    def undo(self):
        """Takes back the last setting."""
        if self._state.earlier is None:
            raise NothingToUndo()
        self._state = self._state.earlier

    def trial(self):
        """For a `with` statement, behind which the vault is as it was."""
        return VaultTrial(self)

    def tried(self, action):
        """What the function returns for the vault, which is then as it was."""
        with self.trial() as vault:
            return action(vault)

    def __getitem__(self, box):
        if box not in self:
            raise UnknownName(box)
        return self._state.things[box]

    def __setitem__(self, box, formula):
        if box not in self:
            raise UnknownName(box)
        check_formula(formula)
        for name in formula.letters:
            if name not in self:
                raise UnknownName(name)
        state = self._state
        contents = tuple(sorted([(name, thing) for name, thing in state.things.items()]))
        part = _grown(state.part, formula, contents)
        if part.size > MOST_GROWN:
            raise TooMany(MOST_GROWN)
        things = {**state.things, box: part.value(formula, contents)}
        self._state = State(part, things, (box, str(formula)), state)

    def __contains__(self, value):
        return is_one_of(value, self._boxes)

    def __iter__(self):
        return iter(self._boxes)

    def __len__(self):
        return len(self._boxes)

    def __eq__(self, other):
        # A state is equal to itself alone, and no two vaults share one.
        return isinstance(other, Vault) and self._state == other._state


class State:
    """What a vault is between two settings. States never change, so that a vault can go back to one.

    `part` is the beginning, `things` a dict of what the boxes hold, `setting` the pair of the log that led here from
    the state `earlier`; both are None at first.
    """

    def __init__(self, part, things, setting, earlier):
        self.part = part
        self.things = things
        self.setting = setting
        self.earlier = earlier


class VaultTrial:
    """For one `with` statement, behind which a vault is as it was."""

    def __init__(self, vault):
        self._vault = vault
        self._state = None

    def __enter__(self):
        self._state = self._vault._state
        return self._vault

    def __exit__(self, kind, value, trace):
        vault = self._vault
        vault._state = self._state


def _grown(part, formula, contents):
    """The beginning, grown by what it lacks for the value of the formula."""
    if formula.name is not None:
        return part
    part = _grown(part, formula.left, contents)
    part = _grown(part, formula.right, contents)
    left, right = part.value(formula.left, contents), part.value(formula.right, contents)
    first, second, mixed = signed_triple(formula.sign, left, right, None)
    return part.grown(first, second, mixed)
