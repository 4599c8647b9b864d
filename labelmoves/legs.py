"""Legs: what the steps of a move do with frames. Some steps differ in their words alone and are legs of one kind.

Each kind tells three things:
- `lead(frames)`: where ascending frames are led that the leg does not lose.
- `least_start(frame)`: the least frame that is led to this one or to a later one.
- `passing()`: a divisor and a share. A number that the divisor divides goes through, and it becomes as many times the
  share as it is times the divisor.
"""

from math import gcd, lcm

from labelmoves.skipping import groups_in_unit
from labelmoves.steps import house_behind


class FrameShift:
    """So many frames on, or back if it is below 0."""

    def __init__(self, amount):
        self._amount = amount

    def lead(self, frames):
        """Where these frames are led."""
        return [frame + self._amount for frame in frames]

    def least_start(self, frame):
        """The least frame that is led here or further."""
        return max(0, frame - self._amount)

    def passing(self):
        """The divisor and the share."""
        return 1, 1


class LabelShift:
    """So many places on, or back if it is below 0, and from there to a frame of the same or another house."""

    def __init__(self, here, there, amount, way):
        self._here = here
        self._there = there
        self._amount = amount
        self._way = way

    def lead(self, frames):
        """Where these frames are led."""
        places = [place + self._amount for place in self._here.places_of(frames)]
        return self._there.frames_at(places, self._way)

    def least_start(self, frame):
        """The least frame that is led here or further."""
        # A skipped place leads on to the next frame, so already the place behind the frame ahead does it.
        if self._way == "last":
            least = self._there.place(frame)
        else:
            least = place_behind_frame_ahead(self._there, frame)
        return self._here.at(max(0, least - self._amount), "next")

    def passing(self):
        """The divisor and the share."""
        places = lcm(places_in_round(self._here), places_in_round(self._there))
        return frames_in_places(self._here, places), frames_in_places(self._there, places)


class UnitStart:
    """To the first frame of the unit, which has so many labels, or of one that is so many units ahead."""

    def __init__(self, house, labels, ahead):
        self._house = house
        self._labels = labels
        self._ahead = ahead

    def lead(self, frames):
        """Where these frames are led."""
        units = [place // self._labels + self._ahead for place in self._house.places_of(frames)]
        return self._house.frames_at([unit * self._labels for unit in units], "next")

    def least_start(self, frame):
        """The least frame that is led here or further."""
        least = place_behind_frame_ahead(self._house, frame)
        # Units begin at multiples of their labels, so this is the first one that begins there or further.
        unit = (least + self._labels - 1) // self._labels
        return self._house.at(max(0, unit - self._ahead) * self._labels, "next")

    def passing(self):
        """The divisor and the share."""
        frames = frames_in_places(self._house, lcm(places_in_round(self._house), self._labels))
        return frames, frames


class Rate:
    """The number of the frame times one number, divided by another."""

    def __init__(self, factor, divisor):
        self._factor = factor
        self._divisor = divisor

    def lead(self, frames):
        """Where these frames are led."""
        return [frame * self._factor // self._divisor for frame in frames]

    def least_start(self, frame):
        """The least frame that is led here or further."""
        return (frame * self._divisor + self._factor - 1) // self._factor

    def passing(self):
        """The divisor and the share."""
        common = gcd(self._factor, self._divisor)
        return self._divisor // common, self._factor // common


def places_in_round(house):
    """How many places the groups of a round have."""
    return house.round[0] * house.bases[-1]


def frames_in_places(house, places):
    """How many frames there are in so many places, which are whole rounds."""
    return house.round[1] * (places // places_in_round(house))


def place_behind_frame_ahead(house, frame):
    """The least place from which the next frame is this one or a later one."""
    return house.place(frame - 1) + 1 if frame > 0 else 0


def leg_of(houses, at, step):
    """What a step does that begins in house number `at`."""
    here = houses[at]
    word = step[0]
    if word == "on":
        return FrameShift(step[1])
    if word == "back":
        return FrameShift(-step[1])
    if word == "call":
        return FrameShift(0)
    if word == "label":
        return LabelShift(here, here, step[1], step[2])
    if word == "unlabel":
        return LabelShift(here, here, -step[1], step[2])
    if word == "read":
        return LabelShift(here, houses[step[1]], 0, step[2])
    if word == "rate":
        return Rate(step[1], step[2])
    labels = groups_in_unit(here.bases, step[1]) * here.bases[-1]
    return UnitStart(here, labels, 0 if word == "to" else 1)


def legs_of(houses, steps):
    """What the steps do, one behind the other."""
    legs = []
    at = 0
    for step in steps:
        legs.append(leg_of(houses, at, step))
        at = house_behind(at, step)
    return legs


def led(legs, frames):
    """Where these ascending frames, none of which is lost, are led."""
    for leg in legs:
        frames = leg.lead(frames)
    return frames


def least_led_to(legs, frame):
    """The least frame that is led to this one or to a later one."""
    for leg in reversed(legs):
        frame = leg.least_start(frame)
    return frame


def least_through(legs):
    """The least number above 0 that goes through the legs, and what it becomes."""
    number = becoming = 1
    for leg in legs:
        divisor, share = leg.passing()
        # All numbers that have gone through so far are multiples of the least one.
        times = divisor // gcd(divisor, becoming)
        number = number * times
        becoming = becoming * times // divisor * share
    return number, becoming
