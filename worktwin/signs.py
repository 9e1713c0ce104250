"""Signs: what a sensor tells of the stand at a beat."""

from worktwin.errors import NoSensor
from worktwin.stands import level_sum, mode_in
from worktwin.words import is_number, is_tuple_of, is_within
from worktwin.works import modes_of

MOST_READING = 40


def sensor_of(works, name):
    """The sensor of that NAME; None where there's none."""
    for sensor in works[5]:
        if sensor[0] == name:
            return sensor
    return None


def is_reading(works, sensor, thing):
    """Whether this may be read off that sensor."""
    if sensor[1] == "sum":
        return is_within(thing, 0, MOST_READING)
    return thing in modes_of(works[2], sensor[2])


def is_sign(works, thing):
    """Whether this is a sign of that works."""
    if not is_tuple_of(thing, 3):
        return False
    beat, name, reading = thing
    sensor = sensor_of(works, name)
    if not is_number(beat) or beat < 0 or sensor is None:
        return False
    return is_reading(works, sensor, reading)


def fits(works, stand, sign):
    """Whether what the sign tells may be read in that stand."""
    beat, name, reading = sign
    sensor = sensor_of(works, name)
    if sensor[1] == "sum":
        return abs(level_sum(works, stand, sensor[2]) - reading) <= sensor[3]
    return mode_in(works, stand, sensor[2]) == reading


def fitting(works, stands, signs, beat):
    """Those of these stands that fit the signs of that beat."""
    told = [sign for sign in signs if sign[0] == beat]
    return [stand for stand in stands if all([fits(works, stand, sign) for sign in told])]


def readings(works, stand, sensor):
    """The rising list of the readings of that sensor that fit the stand."""
    found = sensor_of(works, sensor)
    if found is None:
        raise NoSensor(sensor)
    if found[1] == "sum":
        level, slip = level_sum(works, stand, found[2]), found[3]
        return list(range(max(0, level - slip), min(MOST_READING, level + slip) + 1))
    return [mode_in(works, stand, found[2])]
