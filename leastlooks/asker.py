"""Asking for the bits of a hidden input one by one."""

from leastlooks.checks import check_bit, is_position
from leastlooks.errors import BadPosition, Looked, NothingToRedo, NothingToUndo, NotSettled
from leastlooks.looks import next_steps
from leastlooks.patterns import branches


class Asker:
    """The looks at the bits of one input, which can be taken back and made again."""

    def __init__(self, question):
        self._question = question
        # Tuples, not lists, so that `tried` only has to put the old ones back.
        self._made = ()
        self._undone = ()
        # The question never changes, so that the steps are found once; None until then.
        self._steps = None

    @property
    def about(self):
        """The question."""
        return self._question

    @property
    def known_pattern(self):
        """The pattern of what is known."""
        bits = dict(self._made)
        return "".join([str(bits.get(position, "-")) for position in range(self._question.many)])

    def __len__(self):
        return len(self._made)

    def look(self, position, bit):
        """Make the bit at a position known."""
        self._check_position(position)
        check_bit(bit)
        self._check_unknown(position)
        self._made = self._made + ((position, bit),)
        self._undone = ()

    def undo(self):
        """Take the last look back."""
        if len(self._made) == 0:
            raise NothingToUndo()
        self._undone = self._undone + self._made[-1:]
        self._made = self._made[:-1]

    def redo(self):
        """Make the look again that was taken back last."""
        if len(self._undone) == 0:
            raise NothingToRedo()
        self._made = self._made + self._undone[-1:]
        self._undone = self._undone[:-1]

    def order(self):
        """The list of the known positions in the order in which they were looked at."""
        return [position for position, _ in self._made]

    def answer(self):
        """The answer of the question."""
        pattern = self.known_pattern
        found = self._question.settled(pattern)
        if found is None:
            raise NotSettled(pattern)
        return found

    def needed(self):
        """The least number of further looks that make the answer certain."""
        return self._needed_at(self.known_pattern)

    def best(self):
        """The least position to look at next so that no more looks than needed are made, or None."""
        _, position = self._step(self.known_pattern)
        return position

    def reply(self, position):
        """The bit at a position behind which the most looks are needed."""
        self._check_position(position)
        self._check_unknown(position)
        low, high = branches(self.known_pattern, position)
        return 1 if self._needed_at(high) > self._needed_at(low) else 0

    def tried(self, deed):
        """What a function returns that may change the asker, which is then as it was before."""
        made, undone = self._made, self._undone
        try:
            return deed(self)
        finally:
            self._made, self._undone = made, undone

    def _step(self, pattern):
        """The number of looks that are needed at a pattern, and the least position that is best, or None."""
        if self._steps is None:
            self._steps = next_steps(self._question)
        return self._steps[pattern]

    def _needed_at(self, pattern):
        count, _ = self._step(pattern)
        return count

    def _check_position(self, position):
        if not is_position(position, self._question.many):
            raise BadPosition(position)

    def _check_unknown(self, position):
        if position in self.order():
            raise Looked(position)
