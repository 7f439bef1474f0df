"""Scenes and plans: which sets of fillings are safe [33], the finest plan [34], its paper [35], other plans [36]."""


def is_safe(scene, members):
    """Whether a set of fillings of a scene is safe."""
    fillings, counts, watches = scene
    for groups, guards in watches:
        for group in sorted({groups[k] for k in members}):
            together = [fillings[k] for k in members if groups[k] == group]
            for secret, least in guards[group]:
                if ways_in(counts, together, secret) < least:
                    return False
    return True


def finest(scene, views):
    """The finest plan: of all honest and safe plans the one with the least level for every filling."""
    plan = [0] * len(views)
    # Each class that is to be looked at, with its level.
    waiting = [(len(views[0]) - 1, tuple(range(len(views))))]
    while len(waiting) > 0:
        level, members = waiting.pop()
        parts = classes_at(views, level - 1, members) if level > 0 else ()
        if level > 0 and all([is_safe(scene, part) for part in parts]):
            waiting.extend([(level - 1, part) for part in parts])
        else:
            for k in members:
                plan[k] = level
    return tuple(plan)


def reasons_of(scene, views):
    """The finder's paper for the finest plan: the least reason for each published class of a level above 0."""
    return tuple([_least_reason(scene, views, level, members)
                  for level, members in published(views, finest(scene, views)) if level > 0])


def careless(scene, views):
    """The careless plan: for each filling the least level at which its class is safe."""
    plan = []
    for k in range(len(views)):
        level = 0
        while not is_safe(scene, class_of(views, level, k)):
            level += 1
        plan.append(level)
    return tuple(plan)


def told_at(views, plan, k):
    """The fillings with the same level, and the same value there, as filling number k."""
    return tuple([other for other in class_of(views, plan[k], k) if plan[other] == plan[k]])


def keeps_promise(scene, views, plan):
    """Whether what a plan tells is safe at every filling."""
    return all([is_safe(scene, told_at(views, plan, k)) for k in range(len(plan))])


def ways_in(counts, fillings, secret):
    """The ways of a secret in some fillings: the counts of its shapes that occur in them, each shape once."""
    return sum([counts[secret][shape] for shape in sorted({filling[secret] for filling in fillings})])


def class_of(views, level, k):
    """The class of a level to which filling number k belongs."""
    return tuple([other for other in range(len(views)) if views[other][level] == views[k][level]])


def classes_at(views, level, members):
    """The classes of a level into which some fillings fall, in the order of their first fillings."""
    classes = []
    for k in members:
        value = views[k][level]
        at = 0
        while at < len(classes) and views[classes[at][0]][level] != value:
            at += 1
        if at == len(classes):
            classes.append([])
        classes[at].append(k)
    return tuple([tuple(found) for found in classes])


def published(views, plan):
    """The classes that an honest plan publishes, each with its level, in the order of their first fillings."""
    classes = [(plan[k], class_of(views, plan[k], k)) for k in range(len(plan))]
    return tuple([(level, members) for k, (level, members) in enumerate(classes) if members[0] == k])


def lacks_of(scene, part, k):
    """The watches, each with a secret, for which the group of filling number k in a part has too few ways."""
    fillings, counts, watches = scene
    found = []
    for watch, (groups, guards) in enumerate(watches):
        together = [fillings[other] for other in part if groups[other] == groups[k]]
        found.extend([(watch, secret) for secret, least in guards[groups[k]]
                      if ways_in(counts, together, secret) < least])
    return found


def _least_reason(scene, views, level, members):
    """The least reason why a class of a level above 0 is published."""
    reasons = []
    for part in classes_at(views, level - 1, members):
        reasons.extend([(k,) + lack for k in part for lack in lacks_of(scene, part, k)])
    return min(reasons)
