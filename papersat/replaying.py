"""Replaying: doing the deeds of a journal again at a new desk."""

from papersat.desk import Desk


def replay(deeds):
    """A new desk at which the deeds were done, and the list of the answers."""
    desk = Desk()
    answers = []
    for deed in deeds:
        if deed[0] in ("ask", "follows", "trial"):
            answers.append(_asked(desk, deed))
        else:
            _do(desk, deed)
    return (desk, answers)


def _asked(desk, deed):
    """The answer that a deed asks for."""
    kind, passed = deed
    if kind == "ask":
        return desk.ask(passed)
    return desk.follows(passed) if kind == "follows" else desk.trial(passed)


def _do(desk, deed):
    kind = deed[0]
    if kind == "sort":
        desk.declare_sort(deed[1])
    elif kind == "function":
        desk.declare_function(deed[1], deed[2], deed[3])
    elif kind == "claim":
        desk.claim(deed[1])
    elif kind == "push":
        desk.push()
    elif kind == "drop":
        desk.drop()
