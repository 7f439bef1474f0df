"""Deeds: their faults [43], the plans by which they are done [39], and what they give [40], [41], [42]."""

from hushedpages.books import check_record
from hushedpages.curtains import Curtains
from hushedpages.errors import BadEnding, NoStem, Unknown, Untrue
from hushedpages.plans import finest
from hushedpages.scenes import lots_of, scene_of
from hushedpages.stocks import place_in
from hushedpages.strips import COVER


def after(state, deed):
    """The state behind a deed, and the notice that the reader is given, None for news."""
    check_deed(state, deed)
    if deed[0] == "news":
        return _after_news(state, deed), None
    reader = state.grounds.reader_number(deed[1])
    options = _options_of(state, deed)
    notices = [None] * len(state.fillings)
    told = [()] * len(state.fillings)
    for lot in lots_of(state, reader):
        row, _, views, plan = plan_for(state, deed, options, lot)
        for k, values, level in zip(lot, views, plan):
            notices[k] = _notice_of(state, deed, row, level, values[level], state.fillings[k])
            if deed[0] == "tell" and level == 0:
                told[k] = (state.grounds.secret_number(deed[2]),)
    return state.with_notices(deed, reader, notices, told), notices[state.true_place()]


def true_plan(state, deed):
    """The scene of the lot of the true filling, the views of its fillings and the finest plan, for a right deed."""
    reader = state.grounds.reader_number(deed[1])
    lot = state.alike_to((reader,), state.true_place())
    return plan_for(state, deed, _options_of(state, deed), lot)[1:]


def plan_for(state, deed, options, lot):
    """The number of the tuple of steps that is taken for a lot, its scene, its views, and its finest plan.

    Options has, for each tuple of steps, the views of all fillings; for a deed without steps there is one option.
    """
    reader = state.grounds.reader_number(deed[1])
    scene = scene_of(state, reader, lot, state.grounds.secret_number(deed[2]) if deed[0] == "tell" else None)
    best = None
    most = 0
    for row, option in enumerate(options):
        views = tuple([option[k] for k in lot])
        plan = finest(scene, views)
        seen = _seen_by(state, reader, lot, views, plan) if len(options) > 1 else 0
        if best is None or seen > most:
            best = (row, scene, views, plan)
            most = seen
    return best


def _seen_by(state, reader, lot, views, plan):
    """How much is seen by a plan for copies."""
    total = 0
    for k, looks, level in zip(lot, views, plan):
        seen = sum([len(row) - row.count(COVER) for page in looks[level] for row in page])
        for ways in state.ways_at((reader,), state.fillings[k], k):
            seen *= ways
        total += seen
    return total


def _options_of(state, deed):
    """The views that a right deed gives, for each tuple of steps if it has some."""
    kind = deed[0]
    if kind == "tell":
        secret = state.grounds.secret_number(deed[2])
        return (tuple([(filling[secret], None) for filling in state.fillings]),)
    if kind == "ask":
        return (tuple([(_answer(state, deed[2], filling), None) for filling in state.fillings]),)
    settings = state.grounds.settings_of(deed[2], deed[3])
    return tuple([settings.views_for(state.fillings, Curtains(steps)) for steps in _rows_of_steps(deed)])


def _rows_of_steps(deed):
    """The tuples of steps of a deed for a copy."""
    return deed[4] if deed[0] == "pick" else (deed[4],)


def _answer(state, question, filling):
    """The answer to a right question, for a filling."""
    if question[0] == "width":
        secret = state.grounds.secret_number(question[1])
        return state.grounds.family.word_shape(filling, secret, question[2], question[3])[0]
    pages = state.grounds.settings_of(question[1], question[2]).pages_for(filling)
    return pages.many if question[0] == "pages" else pages.label_page(question[3])


def _notice_of(state, deed, row, level, value, filling):
    """The notice that the reader would be given for a filling."""
    kind = deed[0]
    if kind == "hand":
        return "copy", level, value
    if kind == "pick":
        return "picked", row, level, value
    if level > 0:
        return ("refused",)
    if kind == "ask":
        return "answer", value
    secret = state.grounds.secret_number(deed[2])
    if filling[secret] == state.grounds.truth[secret]:
        return "told", deed[2], state.grounds.stems[secret]
    return "told", deed[2], state.stem_left(secret, filling[secret], 0)


def _after_news(state, deed):
    """The state behind right news."""
    secret = state.grounds.secret_number(deed[1])
    return state.with_news(deed, secret, state.grounds.family.shaped[secret].place_with(deed[2]))


# The faults of deeds.


def check_deed(state, deed):
    """Raises the first fault of a deed."""
    kind = deed[0]
    if kind == "news":
        _check_news(state, deed[1], deed[2])
        return
    state.grounds.reader_number(deed[1])
    if kind == "tell":
        state.grounds.secret_number(deed[2])
    elif kind == "ask":
        _check_question(state, deed[2])
    else:
        check_record(deed[2], state.grounds.book)
        for steps in _rows_of_steps(deed):
            Curtains(steps)
        _check_setting(state, deed[2], deed[3])


def _check_news(state, name, stem):
    """Raises the first fault of the news that a secret of this name is not a stem."""
    secret = state.grounds.secret_number(name)
    if place_in(state.grounds.book[secret][2], stem) is None:
        raise NoStem(stem)
    if state.grounds.family.shaped[secret].place_with(stem) in state.ruled[secret]:
        raise NoStem(stem)
    if stem == state.grounds.stems[secret]:
        raise Untrue(stem)


def _check_question(state, question):
    """Raises the first fault of a question."""
    if question[0] == "width":
        secret = state.grounds.secret_number(question[1])
        if question[2] >= len(state.grounds.book[secret][3]):
            raise BadEnding(question[1])
        return
    record = question[1]
    check_record(record, state.grounds.book)
    if question[0] == "page" and ("label", question[3]) not in record:
        raise Unknown(question[3])
    _check_setting(state, record, question[2])


def _check_setting(state, record, which):
    """Raises the first error of setting a record for the fillings that are left."""
    settings = state.grounds.settings_of(record, which)
    for filling in state.fillings:
        settings.pages_for(filling)
