"""Histories played by what has a hall's calls, through these calls alone."""

from latehall.errors import Closed, Ended, Full, NoLibrary, NoWord, Unmet

REFUSALS = (NoLibrary, Unmet, Closed, Ended, NoWord, Full)


def answer(call, *told, **more):
    """How a call is answered, as point 25 writes it."""
    try:
        return ("ok", call(*told, **more))
    except REFUSALS as refusal:
        return ("no", type(refusal).__name__, tuple(vars(refusal).values()))


def done(hall, call):
    """A call of a history, holds by their numbers."""
    word, *parts = call
    if word == "bring":
        return hall.bring(parts[0], shared=parts[1], early=parts[2], apart=parts[3]).number
    if word == "end":
        return hall.end()
    if word == "shelve":
        return hall.shelve(parts[0])
    hold = hall.hold(parts[0])
    if word == "drop":
        return hall.drop(hold)
    if word == "look":
        return hall.look(hold, parts[1], version=parts[2], cell=parts[3])
    return {"call": hall.call, "show": hall.show}[word](hold, parts[1], version=parts[2])


def played_by(kind, shelf, main, calls, behind=None, **more):
    """The answers of a history; behind each call, the making too, behind(hall) is asked."""
    made = answer(kind, shelf, main, **more)
    if made[0] == "no":
        return [(made, [])]
    hall = made[1]
    answers = [(("ok", 0), hall.told())]
    for call in calls:
        if behind is not None:
            behind(hall)
        before = len(hall.told())
        given = answer(done, hall, call)
        answers.append((given, hall.told()[before:]))
    if behind is not None:
        behind(hall)
    return answers
