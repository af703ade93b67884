"""Histories: calls one after another, and how each is answered."""

from latehall.errors import Closed, Ended, Full, NoLibrary, NoWord, Unmet
from latehall.halls import course_of_hall

# The making is answered as a call is, ahead of all calls of a history.
MAKING = "making"


def played(shelf, main, calls, *, ahead=(), early=False, faint=False):
    """How a hall answers its making and the calls: a list of (answer, rows)."""
    course = course_of_hall(shelf, ahead, early, faint)
    answers = []
    for call in [(MAKING, main), *calls]:
        before = len(course.runs.tellings)
        answer = answer_of(course, call)
        answers.append((answer, course.runs.tellings[before:]))
        if is_refused(answer) and call[0] == MAKING:
            return answers
    return answers


def answer_of(course, call):
    """What a call is answered: ("ok", what), or ("no", the refusal's name, its fields)."""
    try:
        return ("ok", _answered(course, call))
    except NoLibrary as refusal:
        return ("no", "NoLibrary", (refusal.name,))
    except Unmet as refusal:
        return ("no", "Unmet", (refusal.name, refusal.word))
    except NoWord as refusal:
        return ("no", "NoWord", (refusal.word,))
    except Closed:
        return ("no", "Closed", ())
    except Ended:
        return ("no", "Ended", ())
    except Full:
        return ("no", "Full", ())


def is_refused(answer):
    """Whether an answer tells a refusal."""
    return answer[0] == "no"


def _answered(course, call):
    word, *parts = call
    if word == MAKING:
        return course.make(parts[0])
    if word == "bring":
        name, shared, early, apart = parts
        return course.bring(name, shared=shared, early=early, apart=apart)
    if word == "drop":
        return course.drop(parts[0])
    if word == "look":
        number, use, version, cell = parts
        return course.look(number, use, version=version, cell=cell)
    if word == "call":
        number, use, version = parts
        return course.call(number, use, version=version)
    if word == "show":
        number, use, version = parts
        return course.show(number, use, version=version)
    if word == "shelve":
        return course.shelve(parts[0])
    return course.end()
