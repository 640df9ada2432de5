"""What is written as point 25 tells it, by patterns, which the readers are held against."""

import re
from math import gcd

NUMBER = "(?:0|-?[1-9][0-9]{0,399})"
DAY = f"{NUMBER}(?:,{NUMBER})*"
SHARE = f"{NUMBER}/{NUMBER}"
ENTRY = f"{SHARE}@{NUMBER}"
LINE = f"{ENTRY}(?: {ENTRY})*"


def fits(pattern, thing):
    return type(thing) is str and re.fullmatch(pattern, thing) is not None


def share_written(thing):
    if not fits(SHARE, thing):
        return None
    top, bottom = [int(word) for word in thing.split("/")]
    return (top, bottom) if bottom > 0 and gcd(top, bottom) == 1 else None


def shop_written(thing):
    if not fits(f"{NUMBER}(?: {NUMBER}){{8}}", thing):
        return None
    shop = tuple([int(word) for word in thing.split(" ")])
    if min(shop) < 0 or shop[0] + shop[1] > 39 or max(shop[2:]) > 1000000:
        return None
    return shop


def rule_written(thing):
    if not fits(f"{DAY}(?: {DAY})*", thing):
        return None
    return tuple([tuple([int(word) for word in day.split(",")]) for day in thing.split(" ")])


def falls_written(thing):
    falls = rule_written(thing)
    if falls is None or len(falls) > 6:
        return None
    for day in falls:
        if len(day) > 8 or min(day) < 0 or max(day) > 1000 or sum(day) == 0:
            return None
    return falls


def table_written(thing):
    if not fits(f"{LINE}(?:\n{LINE})*", thing):
        return None
    days = []
    for line in thing.split("\n"):
        entries = [word.split("@") for word in line.split(" ")]
        days.append(tuple([(share_written(cost), int(level)) for cost, level in entries]))
        if None in [cost for cost, level in days[-1]]:
            return None
    return tuple(days)
