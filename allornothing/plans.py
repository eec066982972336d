"""The orders of the items of a function in which only some cells need to be logged."""

from allornothing.drafts import Beside
from allornothing.items import items_of, may_follow, pairs_kept
from allornothing.shapes import listed
from allornothing.subsets import subsets


class Plan:
    """The items of a function in a case, as they can be placed one after the other.

    What a throw leaves changed depends on which items are placed before the one
    that throws, not on their order: those that keep theirs have it.
    """

    def __init__(self, program, name, case):
        items = items_of(program, name, case)
        self._case = case
        self._block = program[name][2]
        self._throws = [item.can_throw for item in items]
        self._pairs = pairs_kept(items)
        # A step is a pair of the items that are placed and one that comes next.
        self._steps = {step: at for at, step in enumerate(self._steps_that_throw())}
        self._beside = Beside(program, name, [self._body(placed, item) for placed, item in self._steps])

    def _steps_that_throw(self):
        found = []
        for placed in subsets(len(self._block)):
            if all([one in placed for one, other in self._pairs if other in placed]):
                ahead = [item for item in range(len(self._block)) if self._throws[item]]
                found.extend([(placed, item) for item in ahead if may_follow(placed, item, self._pairs)])
        return found

    def order_within(self, cells):
        """Return the first order in which throws leave no other cells changed, or None."""
        return self._rest((), cells, {})

    def _rest(self, placed, cells, failed):
        """Return the first order of the items that are not placed yet, or None."""
        if len(placed) == len(self._block):
            return ()
        if placed in failed:
            return None
        for item in range(len(self._block)):
            if may_follow(placed, item, self._pairs) and self._leaves_only(placed, item, cells):
                rest = self._rest(tuple(sorted(placed + (item,))), cells, failed)
                if rest is not None:
                    return (item,) + rest
        failed[placed] = True
        return None

    def _leaves_only(self, placed, item, cells):
        """Tell whether the throws of an item leave no other cells changed."""
        if not self._throws[item]:
            return True
        start = len(listed(self._placed(placed)))
        changed = self._beside.changed(self._steps[(placed, item)], self._case, start)
        return all([cell in cells for cell in changed])

    def _body(self, placed, item):
        """Return a body in which the item comes next, and then a return."""
        others = [one for one in range(len(self._block)) if one != item and one not in placed]
        # The others are never reached there, but they tell which names are locals.
        return self._placed(placed) + self._placed((item,)) + (("return", (0, ())),) + self._placed(others)

    def _placed(self, numbers):
        return tuple([self._block[item] for item in numbers])
