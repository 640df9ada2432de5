"""Things that are no shop, no falls and no share, for all tests."""

import copy

from twomarks import errors

REFUSALS = (errors.NoShare, errors.NoMean, errors.NoStand, errors.NoText, errors.NoRow, errors.NoLevel, errors.NoFall,
            errors.NoBack)


def nested(kind, depth):
    thing = kind()
    for _ in range(depth - 1):
        thing = {"in": thing} if kind is dict else kind([thing])
    return thing


# Each of these in the place of a whole number makes the whole wrong.
NO_WHOLES = (
    None, True, False, "", "0", "1", "5", "-1", "a\nb",
    (), (0,), (1,), (0, 1), (1, 1), [], [0], [1], [0, 1], {}, {0: 1}, {"a": [1]},
)

# None of these is a share, a shop, a day's falls or falls.
OTHERS = (
    None, True, False, 0, 1, -1, 40, 10 ** 200 - 1, -(10 ** 200 - 1),
    "", "1", "1/2", "(1, 2)", "39 0 1 1 1 1 1 1 1", "1,2 3", "x" * 50000,
    (), [], {}, [1, 2], [1], [[1]], [(1,)], [[1, 2], [3]], {1: 2}, {0: 1, 1: 1}, {"top": 1, "bottom": 2},
    [3, 2, 1, 1, 1, 1, 1, 1, 1], (None,), (True,), ("1",), ((),), ([],), ({},), (None, None), ("1", "2"),
    nested(tuple, 12), nested(list, 12), nested(dict, 12),
)


def put(row, at, thing):
    """The tuple, with the thing at the place."""
    return row[:at] + (thing,) + row[at + 1:]


def told_unchanged(case, ask, *handed):
    """What is told, where nothing handed in is changed and the same is told again."""
    kept = copy.deepcopy(handed)
    told = ask(*handed)
    case.assertEqual(repr(handed), repr(kept))
    again = ask(*handed)
    case.assertEqual(repr(again), repr(told))
    case.assertEqual(repr(handed), repr(kept))
    return told


def assert_truth(case, told, wanted):
    """Just True or just False, no other thing that counts as one."""
    case.assertIs(type(told), bool)
    case.assertIs(told, wanted)


def assert_whole(case, told, wanted):
    case.assertIs(type(told), int)
    case.assertEqual(told, wanted)


def assert_share(case, told, wanted):
    """Just this share, a tuple of two ints."""
    case.assertIs(type(told), tuple)
    case.assertEqual([type(part) for part in told], [int, int])
    case.assertEqual(told, wanted)


def assert_refused(case, error, deed, *handed):
    """Refused with just this class of error, and nothing handed in is changed."""
    kept = repr(handed)
    with case.assertRaises(errors.ShopError) as caught:
        deed(*handed)
    case.assertIs(type(caught.exception), error)
    case.assertIsInstance(caught.exception, ValueError)
    for other in REFUSALS:
        case.assertEqual(isinstance(caught.exception, other), other is error)
    case.assertEqual(repr(handed), kept)
