"""Live stacks made anew from logs."""

from pushedback.guards import need
from pushedback.live import LiveStack
from pushedback.liveevents import is_log


def replayed(log):
    """A new live stack after the events of the log."""
    need(is_log(log), "log")
    _, ground, scheme = log[0]
    live = LiveStack(ground, scheme)
    for event in log[1:]:
        live.apply(event)
    return live
