"""Events as lines of text, and the step that performs all of them."""

from gangbooks.errors import BadEvent
from gangbooks.failing import failing_step, reopen, shut
from gangbooks.moving import drain
from gangbooks.reserve import reserve
from gangbooks.signs import is_number
from gangbooks.windows import cancel, close

MOST_DIGITS = 6
# What stands behind the word of an event: W for a word, N for an integer.
FORMS = {
    "come": "WW", "drop": "W", "early": "W", "tick": "", "policy": "WWWW", "fail": "W", "repair": "W", "reserve": "WWN",
    "close": "WNN", "cancel": "WN", "shut": "W", "reopen": "W", "drain": "W",
}


def event_line(event):
    """Return the line of an event: its items with one space between them."""
    return " ".join([str(item) for item in event])


def read_event(line):
    """Return the event with this line."""
    word, *texts = line.split(" ")
    if word not in FORMS or len(texts) != len(FORMS[word]):
        raise BadEvent(line)
    items = []
    for kind, text in zip(FORMS[word], texts):
        if text == "" or "\n" in text or (kind == "N" and not is_number(text, MOST_DIGITS)):
            raise BadEvent(line)
        items.append(int(text) if kind == "N" else text)
    return (word, *items)


def full_step(state, event):
    """Perform any event: one of reservations, windows and upkeep, or one of failing_step."""
    if event[0] == "reserve":
        return reserve(state, event[1], event[2], event[3])
    if event[0] == "close":
        return close(state, event[1], event[2], event[3])
    if event[0] == "cancel":
        return cancel(state, event[1], event[2])
    if event[0] == "shut":
        return shut(state, event[1])
    if event[0] == "reopen":
        return reopen(state, event[1])
    if event[0] == "drain":
        return drain(state, event[1])
    return failing_step(state, event)
