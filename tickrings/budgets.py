"""The budgets of the handlers and of the jobs."""

from tickrings.errors import BudgetError


class Budgets:
    """Numbers of ticks that may be used until all budgets are full again."""

    def __init__(self, amounts):
        # Copies, so that neither charging nor the caller changes the amounts.
        self._amounts = list(amounts)
        self._left = list(amounts)

    def left(self, which):
        """Return what is left of a budget."""
        return self._left[which]

    def charge(self, which):
        """Use one tick of a budget."""
        if self._left[which] < 1:
            raise BudgetError(which)
        self._left[which] -= 1

    def refill(self):
        """Make all budgets full."""
        self._left = list(self._amounts)
