"""Events and logs written as lines."""

from pushedback.guards import need
from pushedback.liveevents import is_event, is_log
from pushedback.schemetexts import scheme_line, thing_line


def line_of_event(event):
    """The line of what is known to be an event by form."""
    word = event[0]
    if word == "push":
        return f"push {thing_line(event[1])}"
    if word == "change":
        return f"change {scheme_line(event[1])}"
    words = [word]
    for part in event[1:]:
        if isinstance(part, tuple):
            words.extend([str(digit) for digit in part])
        else:
            words.append(str(part))
    return " ".join(words)


def event_line(event):
    """The event's word and what follows."""
    need(is_event(event), "event")
    return line_of_event(event)


def log_lines(log):
    """A list of the line of the beginning and those of the events."""
    need(is_log(log), "log")
    _, ground, scheme = log[0]
    return [f"begin {ground} {scheme_line(scheme)}"] + [line_of_event(event) for event in log[1:]]
