"""The checker for ever: whether a lasting paper tells the least mean, whoever wrote it."""

from twomarks.checker import none_less
from twomarks.ever import ask_lasting
from twomarks.rules import costs_by, is_levels
from twomarks.shares import common_divisor, is_share, plus, share
from twomarks.shops import stocks


def is_worths(shop, thing):
    """Whether whatever thing is a tuple with a share for each stock."""
    if not isinstance(thing, tuple) or len(thing) != len(stocks(shop)):
        return False
    return all([is_share(worth) for worth in thing])


def is_lasting_paper(shop, thing):
    """Whether whatever thing has the form of a lasting paper of the shop."""
    if not isinstance(thing, tuple) or len(thing) != 3:
        return False
    mean, worths, levels = thing
    return is_share(mean) and is_worths(shop, worths) and is_levels(shop, levels)


def on_one_scale(worths):
    """The worths, times a scale, and this scale."""
    scale = 1
    for top, bottom in worths:
        scale *= bottom // common_divisor(scale, bottom)
    return ([top * (scale // bottom) for top, bottom in worths], scale)


def lets_lasting(shop, one, thing):
    """Whether whatever thing is a lasting paper that is let by; NoMean where the shop isn't lasting."""
    ask_lasting(shop, one)
    if not is_lasting_paper(shop, thing):
        return False
    mean, worths, levels = thing
    ahead, scale = on_one_scale(worths)
    costs = costs_by(shop, one, levels, ahead, scale)
    if [share(cost, scale * sum(one)) for cost in costs] != [plus(mean, worth) for worth in worths]:
        return False
    return none_less(shop, one, costs, ahead, scale)
