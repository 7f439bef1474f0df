"""A judge of plans and of their papers [35]. It does not look for a plan."""

from hushedpages.plans import class_of, is_safe, lacks_of, published


def judge_plan(scene, views, plan, paper):
    """Whether a plan is honest and safe, and its paper shows that it is the finest one."""
    if len(plan) != len(views) or not all([0 <= level < len(views[0]) for level in plan]):
        return False
    if not _is_honest(views, plan):
        return False
    classes = published(views, plan)
    if not all([is_safe(scene, members) for _, members in classes]):
        return False
    above = [(level, members) for level, members in classes if level > 0]
    return len(paper) == len(above) and all([_is_right(scene, views, level, members, reason)
                                             for (level, members), reason in zip(above, paper)])


def _is_honest(views, plan):
    """Whether fillings with equal values at the level of one of them have the same level."""
    return all([plan[other] == plan[k] for k in range(len(plan)) for other in class_of(views, plan[k], k)])


def _is_right(scene, views, level, members, reason):
    """Whether a reason tells why a class of a level above 0 is published."""
    if len(reason) != 3 or reason[0] not in members:
        return False
    return reason[1:] in lacks_of(scene, class_of(views, level - 1, reason[0]), reason[0])
