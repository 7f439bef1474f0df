"""The lots of a reader, and the scene of each lot [39]."""

from hushedpages.plans import ways_in


def lots_of(state, reader):
    """The lots of a reader: the places of the fillings that look alike to this reader alone."""
    lots = {}
    for k, number in enumerate(state.alike[reader]):
        lots.setdefault(number, []).append(k)
    return tuple([tuple(lots[number]) for number in lots])


def scene_of(state, reader, lot, unguarded):
    """The scene of a lot of a reader; the secret with the number unguarded stands in no guards, None for no secret."""
    watches = [_watch_of(state, [other for other in circle if other != reader], circle, lot, unguarded)
               for circle in state.grounds.circles if reader in circle]
    return tuple([state.fillings[k] for k in lot]), state.counts, tuple(watches)


def _watch_of(state, others, circle, lot, unguarded):
    """The watch of a circle with these others beside the reader, over a lot."""
    numbers = {}
    groups = []
    parts = []
    for k in lot:
        given = tuple([state.alike[other][k] for other in others])
        if given not in numbers:
            numbers[given] = len(numbers)
            parts.append([])
        groups.append(numbers[given])
        parts[numbers[given]].append(k)
    return tuple(groups), tuple([_guards_of(state, circle, part, unguarded) for part in parts])


def _guards_of(state, circle, part, unguarded):
    """The guards of a group of fillings."""
    fillings = [state.fillings[k] for k in part]
    # To the circle, all fillings of the group look alike; so what is open for one of them is open for all.
    return tuple([(at, min(secret[1], ways_in(state.counts, fillings, at)))
                  for at, secret in enumerate(state.grounds.book)
                  if at != unguarded and not state.is_told(circle, at, part[0])])
