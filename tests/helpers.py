"""What several test files need: looking at what is told, and sharing no list."""

import copy


def lists_in(value):
    """Every list in a value, at whatever depth, the value itself among them."""
    if not isinstance(value, (list, tuple)):
        return []
    found = [value] if isinstance(value, list) else []
    for part in value:
        found.extend(lists_in(part))
    return found


def spoil(value):
    """Change every list in a value."""
    for one in lists_in(value):
        one.insert(0, "spoilt")
        one.append("spoilt")


def check_own(case, ask, handed):
    """What is handed in stays, what is told is the asker's own, and is told again when asked again."""
    before = copy.deepcopy(handed)
    told = ask(*handed)
    case.assertEqual(handed, before)
    kept = copy.deepcopy(told)
    again = ask(*handed)
    case.assertEqual(again, kept)
    told_lists = lists_in(told) + lists_in(again)
    case.assertEqual(len({id(one) for one in told_lists}), len(told_lists), "a list is told twice")
    handed_ids = {id(one) for part in handed for one in lists_in(part)}
    case.assertFalse(handed_ids & {id(one) for one in told_lists}, "a handed list is told")
    spoil(told)
    case.assertEqual(handed, before)
    case.assertEqual(again, kept)
    case.assertEqual(ask(*handed), kept)
    last = ask(*handed)
    for part in handed:
        spoil(part)
    case.assertEqual(last, kept)
    case.assertEqual(ask(*before), kept)


def is_whole(value):
    return isinstance(value, int) and not isinstance(value, bool)
