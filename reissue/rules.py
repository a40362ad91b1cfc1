"""Rules with counters: how long an identifier rests, and after how many issues its counter comes again."""

from reissue.behaviors import Behavior, check_behavior
from reissue.checks import check_at_least, is_at_least
from reissue.errors import InvalidList, InvalidNumber, InvalidRule
from reissue.lengths import ENDLESS
from reissue.times import NEVER, earliest
from reissue.waits import least_wait

MOST_TURNS = 60
MOST_RULES = 20
MOST_PRODUCT = 10000


class Rule:
    """A wait, and the number of turns after which a counter that all messages carry begins anew."""

    def __init__(self, wait, turns=1):
        check_at_least(wait, 0)
        check_at_least(turns, 1)
        self._wait = wait
        self._turns = turns

    @property
    def wait(self):
        """How long the identifier rests."""
        return self._wait

    @property
    def turns(self):
        """How many values the counter has."""
        return self._turns

    def __eq__(self, other):
        return isinstance(other, Rule) and self._wait == other._wait and self._turns == other._turns

    def __le__(self, other):
        if not isinstance(other, Rule):
            return NotImplemented
        return _is_at_most(self, other)

    def __lt__(self, other):
        if not isinstance(other, Rule):
            return NotImplemented
        return _is_at_most(self, other) and not _is_at_most(other, self)

    def __ge__(self, other):
        if not isinstance(other, Rule):
            return NotImplemented
        return _is_at_most(other, self)

    def __gt__(self, other):
        if not isinstance(other, Rule):
            return NotImplemented
        return _is_at_most(other, self) and not _is_at_most(self, other)


def is_safe(behavior, rule):
    """Return whether nothing is ever misdelivered with the rule if all holders have the behavior."""
    check_behavior(behavior)
    if not isinstance(rule, Rule):
        raise InvalidRule(rule)
    needed, lifetime = _needs(behavior)
    return needed != ENDLESS and needed <= rule.turns * rule.wait + (rule.turns - 1) * lifetime


def wait_for(behavior, turns):
    """Return the least wait that is safe with so many turns, ENDLESS if there is none."""
    check_behavior(behavior)
    check_at_least(turns, 1)
    needed, lifetime = _needs(behavior)
    return ENDLESS if needed == ENDLESS else _wait_with(needed, lifetime, turns)


def turns_for(behavior, wait):
    """Return the least number of turns that is safe with the wait, ENDLESS if there is none."""
    check_behavior(behavior)
    check_at_least(wait, 0)
    needed, lifetime = _needs(behavior)
    if needed == ENDLESS:
        return ENDLESS
    if lifetime + wait == 0:
        # More turns take no more time here.
        return 1 if needed == 0 else ENDLESS
    return max(1, _quotient_up(needed + lifetime, lifetime + wait))


def staircase(behavior, most):
    """Return the list of (turns, wait) with the least wait for 1 to `most` turns, where it is less than for fewer."""
    check_behavior(behavior)
    if not is_at_least(most, 1) or most > MOST_TURNS:
        raise InvalidNumber(most)
    needed, lifetime = _needs(behavior)
    steps = []
    if needed != ENDLESS:
        for turns in range(1, most + 1):
            wait = _wait_with(needed, lifetime, turns)
            # The wait never becomes greater with more turns.
            if not steps or wait != steps[-1][1]:
                steps.append((turns, wait))
    return steps


def above(rules):
    """Return the ascending list of (turns, wait) of the minimal rules that all the given ones are at most."""
    if not _are_rules(rules):
        raise InvalidList(rules)
    turns = max([int(rule.turns) for rule in rules])
    product = max([int(_product(rule)) for rule in rules])
    found = []
    least = None
    # From as many turns as the product on, a wait of 1 (or 0) is enough, and more turns only make more of it.
    for more in range(turns, max(int(turns), product) + 1):
        wait = _quotient_up(product, more)
        if least is None or more * wait < least:
            least = more * wait
            found.append((more, wait))
    return found


def _is_at_most(one, other):
    """Return whether the other rule is safe wherever the one is."""
    return one.turns <= other.turns and _product(one) <= _product(other)


def _product(rule):
    """Return the turns times the wait."""
    return rule.turns * rule.wait


def _needs(behavior):
    """Return the least wait that is safe without a counter, or ENDLESS, and the lifetime of the behavior."""
    lifetime = earliest(behavior)[Behavior.RELEASE]
    # Where no release comes, no wait is needed: it does not matter then what stands for the lifetime.
    return least_wait(behavior, behavior), 0 if lifetime == NEVER else lifetime


def _wait_with(needed, lifetime, turns):
    """Return the least wait with so many turns, if a number is needed without a counter."""
    return max(0, _quotient_up(needed - (turns - 1) * lifetime, turns))


def _quotient_up(number, by):
    """Return the least whole number that is not below the quotient."""
    return -(-number // by)


def _are_rules(value):
    """Return whether the value is a list of 1 to 20 rules whose turns times wait are not too great."""
    if not isinstance(value, list) or not 1 <= len(value) <= MOST_RULES:
        return False
    return all([isinstance(rule, Rule) and _product(rule) <= MOST_PRODUCT for rule in value])
