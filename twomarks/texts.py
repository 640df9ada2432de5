"""Texts: how shops, falls, rules, shares and tables are written."""

# Python writes only so many figures of a number at once, and shares that are told may be longer.
PART_FIGURES = 64
PART = 10 ** 64


def show_number(number):
    """The whole number's figures, `-` ahead where it is below 0."""
    parts = []
    rest = abs(number)
    while rest >= PART:
        rest, part = divmod(rest, PART)
        parts.append(str(part).zfill(PART_FIGURES))
    parts.append(str(rest))
    parts.reverse()
    return ("-" if number < 0 else "") + "".join(parts)


def show_shop(shop):
    """The shop's nine numbers, blanks between."""
    return " ".join([show_number(number) for number in shop])


def show_rule(rule):
    """The rule's days, blanks between, a day's levels with `,` between."""
    return " ".join([",".join([show_number(level) for level in levels]) for levels in rule])


def show_falls(falls):
    """The days, blanks between, a day's weights with `,` between."""
    return show_rule(falls)


def show_share(one):
    """The share's top, `/` and its bottom."""
    top, bottom = one
    return f"{show_number(top)}/{show_number(bottom)}"


def show_entry(entry):
    """A stock's share, `@` and its level."""
    cost, level = entry
    return f"{show_share(cost)}@{show_number(level)}"


def show_table(table):
    """A line for each day, the stocks' shares and levels with blanks between."""
    return "\n".join([" ".join([show_entry(entry) for entry in day]) for day in table])
