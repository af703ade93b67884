"""Histories by the plain reader, who keeps a state between two calls and nothing else."""

from latehall.history import MAKING, answer_of, is_refused
from latehall.readers import Reader


def read(shelf, main, calls, *, ahead=(), early=False, faint=False):
    """How the making and the calls are answered: a list of (answer, rows)."""
    made, state = _call_read(_state_ahead(shelf, ahead, early, faint), (MAKING, main))
    return [made] if is_refused(made[0]) else [made, *read_on(state, calls)]


def read_on(state, calls):
    """How calls are answered from a state on: a list of (answer, rows)."""
    return _calls_read(state, calls)[0]


def state_behind(shelf, main, calls, *, ahead=(), early=False, faint=False):
    """The state behind the making and the calls; None where the making is refused."""
    made, state = _call_read(_state_ahead(shelf, ahead, early, faint), (MAKING, main))
    return None if is_refused(made[0]) else _calls_read(state, calls)[1]


def _state_ahead(shelf, ahead, early, faint):
    """The state ahead of the making: nothing came."""
    return (shelf, early, faint, ahead, (), (), (), (), (0, 1))


def _calls_read(state, calls):
    """The answers to calls, and the state behind them."""
    answers = []
    for call in calls:
        answer, state = _call_read(state, call)
        answers.append(answer)
    return answers, state


def _call_read(state, call):
    """What a call is answered, with the rows told by it, and the state behind it."""
    reader = Reader(state)
    answer = answer_of(reader, call)
    return (answer, reader.tellings), reader.state()
