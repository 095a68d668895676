"""Desks on which rules are entered and withdrawn, and taken back again."""

from joinpast.books import Book
from joinpast.errors import NotEntered, NothingToUndo
from joinpast.rowsets import require_rows, row_set
from joinpast.sums import ordered


class Desk:
    """A row of deeds that enter and withdraw rules."""

    def __init__(self, rows):
        self.rows = row_set(rows)
        self.standing = ()

    @property
    def deeds(self):
        """The deeds that stand, in order."""
        return self.standing

    @property
    def standing_book(self):
        """The book of the rules that were entered and not withdrawn."""
        indexes = standing_indexes(self.standing)
        return Book(self.rows, [self.standing[index][1] for index in indexes])

    def __len__(self):
        return len(self.standing)

    def enter(self, terms):
        """Enter a rule."""
        require_rows([term[0] for term in terms], self.rows)
        self.standing = self.standing + (("enter", ordered(terms)),)

    def withdraw(self, index):
        """Withdraw the rule that the deed with this index entered."""
        if index not in standing_indexes(self.standing):
            raise NotEntered(index)
        self.standing = self.standing + (("withdraw", index),)

    def undo(self):
        """Take back the last deed."""
        if len(self.standing) == 0:
            raise NothingToUndo()
        self.standing = self.standing[:-1]


class Trial:
    """A block behind which the deeds are those from before, unless it is kept."""

    def __init__(self, desk):
        self.desk = desk
        self.before = None

    def __enter__(self):
        self.before = self.desk.standing
        return self

    def __exit__(self, kind, value, trace):
        desk = self.desk
        if self.before is not None:
            desk.standing = self.before

    def keep(self):
        """Keep the deeds of the block."""
        self.before = None


def perform(desk, steps):
    """Do the steps in order and return their answers."""
    return tuple([performed(desk, step) for step in steps])


def inside(trial, steps):
    """Do the steps in the block of a trial and return their answers."""
    answers = []
    with trial:
        for step in steps:
            if step[0] == "hold":
                trial.keep()
                answers.append(None)
            else:
                answers.append(performed(trial.desk, step))
    return tuple(answers)


def performed(desk, step):
    """Do one step and return its answer."""
    if step[0] == "ask":
        return step[1] in desk.standing_book
    if step[0] == "try" or step[0] == "keep":
        return in_block(desk, step[1], step[0] == "keep")
    if step[0] == "enter":
        desk.enter(step[1])
    elif step[0] == "withdraw":
        desk.withdraw(step[1])
    else:
        desk.undo()
    return len(desk)


def in_block(desk, steps, kept):
    """Do the steps in a block and return their answers."""
    with Trial(desk) as trial:
        answers = perform(desk, steps)
        if kept:
            trial.keep()
    return answers


def standing_indexes(deeds):
    """Return the indexes of the deeds that entered rules that still stand."""
    withdrawn = [deed[1] for deed in deeds if deed[0] == "withdraw"]
    return [
        index for index in range(len(deeds)) if deeds[index][0] == "enter" and index not in withdrawn
    ]
