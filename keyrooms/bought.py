"""The fewest keys that must be bought to open all rooms of a plain house, and papers that show it."""

from keyrooms.countings import kinds_counted
from keyrooms.houses import are_kinds, is_kind, is_whole, require_plain
from keyrooms.opening import shut_bars, shut_kinds


def lacking(house):
    """For each kind that has more locks than keys, how many more."""
    counts = kinds_counted(house)
    return {kind: locks - keys for kind, (keys, locks) in counts.items() if locks > keys}


def holders_of(rooms, kinds):
    """For each of the kinds the kinds of the locks behind which keys of it lie."""
    return {kind: sorted({locks[0] for locks, within in rooms if kind in within}) for kind in kinds}


def kinds_ahead(holders, kind):
    """The kind, and all kinds whose keys could lead to it, sorted."""
    seen = set()
    waiting = [kind]
    while waiting:
        found = waiting.pop()
        if found not in seen:
            seen.add(found)
            waiting.extend(holders[found])
    return sorted(seen)


def least_parts(house, lacks):
    """The least parts that bar, each by itself, once the lacking keys are bought, sorted."""
    keys, rooms = house
    # A kind that does not come even so lacks no key, and all its keys lie behind locks of such kinds.
    shut = shut_kinds((keys + list(lacks), rooms))
    holders = holders_of(rooms, shut)
    ahead = {kind: kinds_ahead(holders, kind) for kind in shut}
    parts = []
    for kind in shut:
        part = ahead[kind]
        # One bought key opens the way to a whole part just where each kind of it leads to each other;
        # such a part is met once for each of its kinds, and taken for the first.
        if kind == part[0] and all([ahead[other] == part for other in part]):
            parts.append(part)
    return parts


def keys_to_buy(house):
    """The fewest keys with which all rooms of a plain house can be opened, sorted."""
    lacks, parts = buying_paper(house)
    bought = [part[0] for part in parts]
    for kind, many in lacks.items():
        bought.extend([kind] * many)
    return sorted(bought)


def buying_paper(house):
    """(lacks, parts): a paper that just so many keys as must be bought are wanted."""
    require_plain(house)
    lacks = lacking(house)
    return (lacks, least_parts(house, lacks))


def lacks_hold(house, lacks):
    """Whether anything is a dict from kinds that lack keys to how many they lack."""
    if not isinstance(lacks, dict):
        return False
    due = lacking(house)
    return all([is_kind(kind) and is_whole(many) and due.get(kind) == many for kind, many in lacks.items()])


def parts_hold(house, lacks, parts):
    """Whether anything is a list of parts that bar, each by itself, and no kind is in two or in lacks."""
    if not isinstance(parts, list) or not all([are_kinds(part) for part in parts]):
        return False
    named = list(lacks)
    for part in parts:
        named.extend(part)
    return len(named) == len(set(named)) and all([shut_bars(house, part) for part in parts])


def buying_shows(house, paper, many):
    """Whether the paper shows that so many keys must be bought."""
    require_plain(house)
    if not isinstance(paper, tuple) or len(paper) != 2 or not is_whole(many):
        return False
    lacks, parts = paper
    if not lacks_hold(house, lacks) or not parts_hold(house, lacks, parts):
        return False
    return many <= sum(lacks.values()) + len(parts)
