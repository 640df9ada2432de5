"""The refusals of the program."""


class ShopError(ValueError):
    """Any refusal."""


class NoShare(ShopError):
    """There is no share over a bottom of 0."""


class NoMean(ShopError):
    """A shop and a day's falls that have no told mean for ever."""


class NoStand(ShopError):
    """A stock that isn't free where only free ones are answered."""


class NoText(ShopError):
    """Something that isn't written as it must be."""


class NoRow(ShopError):
    """Something that is no row of the desk, or none yet."""


class NoLevel(ShopError):
    """A level, a stock or a day that isn't there, or a second level for one day."""


class NoFall(ShopError):
    """Something that is no fall."""


class NoBack(ShopError):
    """Nothing is left to be taken back."""
