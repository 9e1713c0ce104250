"""A story as text, and back."""

from worktwin.errors import BadRow
from worktwin.signs import MOST_READING, is_reading, sensor_of
from worktwin.stories import is_deed_name
from worktwin.words import number_in

NONE = "-"


def story_text(story):
    """The text of a story."""
    deeds, signs = story
    rows = [f"deed {deed}" for deed in deeds]
    rows.extend([f"sign {beat} {sensor} {reading}" for beat, sensor, reading in signs])
    return "\n".join(rows) or NONE


def reading_in(sensor, word):
    """What this word writes as a reading of that sensor, right or not."""
    return number_in(word, MOST_READING) if sensor[1] == "sum" else word


def sign_in(works, words, last):
    """The sign that these words write, of a beat up to the last one; None where they write none."""
    if len(words) != 4:
        return None
    beat = number_in(words[1], last)
    sensor = sensor_of(works, words[2])
    if beat is None or sensor is None:
        return None
    reading = reading_in(sensor, words[3])
    return (beat, words[2], reading) if is_reading(works, sensor, reading) else None


def story_in(works, text):
    """The story that has this text."""
    deeds, signs = [], []
    if text == NONE:
        return (deeds, signs)
    for at, row in enumerate(text.split("\n")):
        words = row.split(" ")
        if words[0] == "deed" and len(words) == 2 and not signs and is_deed_name(works, words[1]):
            deeds.append(words[1])
            continue
        sign = sign_in(works, words, len(deeds)) if words[0] == "sign" else None
        if sign is None:
            raise BadRow(at)
        signs.append(sign)
    return (deeds, signs)
