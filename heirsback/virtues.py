"""The virtues (point 16): what a step may lack."""

from heirsback.errors import BadVirtue

VIRTUES = ("runs", "alike", "deep", "whole", "placed", "carried", "fresh")


def check_virtues(words):
    """The chosen virtues, each once, in the order of point 16."""
    for word in words:
        if word not in VIRTUES:
            raise BadVirtue(word)
    return tuple([virtue for virtue in VIRTUES if virtue in words])


def lacked(outcome):
    """The virtues that a step with this outcome lacks."""
    kind, told = outcome
    return ("runs",) if kind == "fails" else told


def lacks_any(outcome, chosen):
    """Whether a step with this outcome lacks one of the chosen virtues."""
    return any([virtue in chosen for virtue in lacked(outcome)])
