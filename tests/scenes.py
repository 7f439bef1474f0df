"""Small random scenes and views for the tests of plans."""

import itertools


def ways(counts, fillings, secret):
    """The sum of the counts of the shapes of a secret that occur in some fillings."""
    return sum(counts[secret][shape] for shape in {filling[secret] for filling in fillings})


def random_scene(dice, most=6):
    """A scene in which the set of all fillings is safe."""
    secrets = dice.randrange(1, 3)
    shapes = [dice.randrange(1, 5) for _ in range(secrets)]
    possible = list(itertools.product(*map(range, shapes)))
    fillings = tuple(sorted(dice.sample(possible, dice.randrange(1, min(most, len(possible)) + 1))))
    counts = tuple(tuple(dice.randrange(1 if any(filling[secret] == shape for filling in fillings) else 0, 4)
                         for shape in range(shapes[secret])) for secret in range(secrets))
    return fillings, counts, tuple(random_watch(dice, fillings, counts) for _ in range(dice.randrange(1, 4)))


def random_watch(dice, fillings, counts):
    groups = [0]
    while len(groups) < len(fillings):
        groups.append(dice.randrange(max(groups) + 2))
    guards = []
    for group in range(max(groups) + 1):
        together = [filling for filling, number in zip(fillings, groups) if number == group]
        guards.append(tuple((secret, dice.randrange(1, ways(counts, together, secret) + 1)) for secret in range(len(counts))
                            if dice.random() < 0.7))
    return tuple(groups), tuple(guards)


def random_views(dice, many, most_levels=4):
    """Views for so many fillings: from level to level some values become equal, at the last one all."""
    levels = [[dice.randrange(many) for _ in range(many)]]
    for _ in range(dice.randrange(most_levels - 1)):
        merged = {value: dice.choice([value, dice.randrange(many)]) for value in set(levels[-1])}
        levels.append([merged[value] for value in levels[-1]])
    levels.append([0] * many)
    kinds = [dice.choice((lambda value: value, lambda value: (("ab", str(value)),), str)) for _ in levels]
    kinds[-1] = dice.choice((lambda value: None, lambda value: ()))
    return tuple(tuple(kind(level[k]) for kind, level in zip(kinds, levels)) for k in range(many))


def all_plans(views):
    """All plans whose levels there are."""
    return itertools.product(range(len(views[0])), repeat=len(views))


def safe(scene, members):
    """Whether a set of fillings is safe, word by word."""
    fillings, counts, watches = scene
    for groups, guards in watches:
        for group, pairs in enumerate(guards):
            together = [fillings[k] for k in members if groups[k] == group]
            for secret, least in pairs:
                if together and ways(counts, together, secret) < least:
                    return False
    return True


def class_at(views, level, k):
    return tuple(other for other, row in enumerate(views) if row[level] == views[k][level])


def honest(views, plan):
    return all(plan[other] == level for k, level in enumerate(plan) for other in class_at(views, level, k))


def plan_is_safe(scene, views, plan):
    return all(safe(scene, class_at(views, level, k)) for k, level in enumerate(plan))


def is_reason(scene, views, level, members, reason):
    """Whether a triple is a reason why a class of a level above 0 is published, word by word."""
    fillings, counts, watches = scene
    k, watch, secret = reason
    if k not in members or not 0 <= watch < len(watches) or not 0 <= secret < len(counts):
        return False
    groups, guards = watches[watch]
    together = [fillings[other] for other in class_at(views, level - 1, k) if groups[other] == groups[k]]
    return any(ways(counts, together, secret) < least for guarded, least in guards[groups[k]] if guarded == secret)


def published_above(views, plan):
    """The classes of a level above 0 that an honest plan publishes, in the order of their first fillings."""
    found = []
    for k, level in enumerate(plan):
        members = class_at(views, level, k)
        if level > 0 and members[0] == k:
            found.append((level, members))
    return found
