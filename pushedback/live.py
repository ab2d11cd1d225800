"""Live stacks, which change by events and take them back."""

from pushedback.digitrows import added, row_of, taken
from pushedback.errors import InvalidEvent, NothingToUndo
from pushedback.guards import need
from pushedback.kinds import is_number
from pushedback.liveevents import is_event
from pushedback.schemecoder import pop_from, push_to
from pushedback.schemekinds import is_scheme
from pushedback.things import holds


def reason_in(state, is_full, event):
    """Why any value is refused in a state, a pair of a stack and a scheme; None if it is not."""
    if not is_event(event):
        return "shape"
    if is_full:
        return "full"
    stack, scheme = state
    word = event[0]
    if word == "push" and not holds(scheme, event[1]):
        return "thing"
    if word == "change" and event[1] == scheme:
        return "same"
    if word == "back" and len(row_of(event[1], stack)) < event[2]:
        return "short"
    return None


def outcome_in(state, event):
    """What an event gives that is not refused in the state, and the state behind it."""
    stack, scheme = state
    word = event[0]
    if word == "pop":
        thing, left = pop_from(stack, scheme)
        return thing, (left, scheme)
    if word == "back":
        digits, left = taken(event[1], stack, event[2])
        return digits, (left, scheme)
    if word == "change":
        return stack, (stack, event[1])
    if word == "push":
        after = push_to(stack, scheme, event[1])
    else:
        after = added(event[1], stack, event[2])
    return after, (after, scheme)


class LiveStack:
    """A stack and a scheme, with all events since the beginning."""

    MOST = 40

    def __init__(self, ground, scheme):
        need(is_number(ground), "ground")
        need(is_scheme(scheme), "scheme")
        # the states ahead of the first event and behind each one
        self._states = ((ground, scheme),)
        self._events = ()
        self._gifts = ()
        self._calls = 0

    @property
    def ground_now(self):
        """The ground."""
        return self._states[0][0]

    @property
    def stack_now(self):
        """The stack."""
        return self._states[-1][0]

    @property
    def scheme_now(self):
        """The scheme."""
        return self._states[-1][1]

    def push_on(self, thing):
        """Push the thing; the stack after it."""
        return self.go(("push", thing))

    def pop_off(self):
        """Pop a thing; the thing."""
        return self.go(("pop",))

    def change(self, scheme):
        """Go on with the scheme; the stack."""
        return self.go(("change", scheme))

    def feed(self, base, digits):
        """Put the digits behind the row of the stack; the stack after it."""
        return self.go(("feed", base, digits))

    def back(self, base, many):
        """Take the last many digits off the row of the stack; the digits."""
        return self.go(("back", base, many))

    def go(self, event):
        """Apply any event; what it gives."""
        self._calls += 1
        return self.apply(event)

    def apply(self, event):
        """What go does, but it is not counted."""
        reason = self.barred(event)
        if reason is not None:
            raise InvalidEvent(event, reason)
        gift, state = outcome_in(self._states[-1], event)
        self._states = self._states + (state,)
        self._events = self._events + (event,)
        self._gifts = self._gifts + (gift,)
        return gift

    def barred(self, event):
        """The reason for which any value would be refused, None if it would not be."""
        return reason_in(self._states[-1], len(self._events) >= self.MOST, event)

    def tried(self, *events):
        """The stack and the scheme as they would be after the events, and what these would give."""
        state = self._states[-1]
        gifts = []
        for event in events:
            is_full = len(self._events) + len(gifts) >= self.MOST
            reason = reason_in(state, is_full, event)
            if reason is not None:
                raise InvalidEvent(event, reason)
            gift, state = outcome_in(state, event)
            gifts.append(gift)
        stack, scheme = state
        return stack, scheme, tuple(gifts)

    def undo(self, steps=1):
        """Take the last events back; these, the last one first."""
        self._calls += 1
        need(is_number(steps), "steps")
        left = len(self._events) - steps
        if left < 0:
            raise NothingToUndo(steps)
        undone = self._events[left:]
        self._states = self._states[:left + 1]
        self._events = self._events[:left]
        self._gifts = self._gifts[:left]
        return undone[::-1]

    def do_all(self, *events, keep=False):
        """Apply the events in order, with keep also those ahead of a refused one; how many."""
        self._calls += 1
        need(isinstance(keep, bool), "keep")
        if not keep:
            # what is refused is refused here, ahead of all changes
            self.tried(*events)
        for event in events:
            self.apply(event)
        return len(events)

    def tally(self):
        """How many calls were started, and how many finished."""
        # none goes on while another one is started, and errors finish them too
        return self._calls, self._calls

    def log(self):
        """The beginning, and the events that are not undone."""
        ground, scheme = self._states[0]
        return (("begin", ground, scheme),) + self._events

    def __iter__(self):
        return iter(self._events)

    def __len__(self):
        return len(self._events)

    def __getitem__(self, at):
        """What the event of the place at gave."""
        need(is_number(at) and at < len(self._gifts), "place")
        return self._gifts[at]

    def __contains__(self, thing):
        """Whether any value is one of the events."""
        # a look at its kind first, since in an event True would be taken for 1
        return is_event(thing) and thing in self._events

    def __eq__(self, other):
        return isinstance(other, LiveStack) and self.log() == other.log()
