"""Point 2: what is handed in stays as it was, and every told list is the asker's own."""

import copy


def wreck(thing):
    """Changes every list in a thing, within tuples and lists too, as far as lists can be changed."""
    if isinstance(thing, (list, tuple)):
        for part in thing:
            wreck(part)
    if isinstance(thing, list):
        thing.reverse()
        thing.append("wrecked")
        thing[0] = "wrecked"


def ask_and_wreck(case, ask, *handed):
    """Asks again and again while what was told, and at last what was handed in, is wrecked."""
    args = copy.deepcopy(handed)
    told = ask(*args)
    want = copy.deepcopy(told)
    case.assertEqual(repr(args), repr(handed))
    again = ask(*args)
    wreck(again)
    case.assertEqual(repr(args), repr(handed))
    case.assertEqual(repr(told), repr(want))
    case.assertEqual(repr(ask(*args)), repr(want))
    wreck(args)
    case.assertEqual(repr(told), repr(want))
    case.assertEqual(repr(ask(*copy.deepcopy(handed))), repr(want))
    return want


def refused_and_kept(case, error, ask, *handed):
    """Asks for what is refused; what was handed in stays. The error is given back."""
    args = copy.deepcopy(handed)
    with case.assertRaises(error) as caught:
        ask(*args)
    case.assertIs(type(caught.exception), error)
    case.assertEqual(repr(args), repr(handed))
    return caught.exception
