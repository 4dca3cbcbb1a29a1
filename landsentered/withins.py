"""Shapes within shapes."""

from landsentered.covers import covered


def within(one, other):
    answers = [covered(other, box) for box in one]
    lacking = [answer[1] for answer in answers if answer[0] == "no"]
    if lacking:
        return ("no", min(lacking))
    return ("yes", [answer[1] for answer in answers])


def alike(one, other):
    return within(one, other)[0] == "yes" and within(other, one)[0] == "yes"
