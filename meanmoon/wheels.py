"""Wheels: rows of names that the days have in turn, round and round."""

from meanmoon.errors import NoDay, NoName, NoWheel
from meanmoon.numerals import numeral
from meanmoon.shares import common_divisor, common_multiple


class Wheel:
    """Unlike names, the first of which the day first has."""

    def __init__(self, names, first=0):
        if len(names) == 0 or len(set(names)) < len(names):
            raise NoWheel(list(names))
        self.names = tuple(names)
        self.first = first

    def name_on(self, day):
        """Tell the name of a day."""
        return self.names[(day - self.first) % len(self.names)]

    def next_named(self, day, name):
        """Tell the first day from a day on that has the name; refused where no day has."""
        return first_alike(named_day(self, name), len(self.names), day)

    def __len__(self):
        return len(self.names)

    def __eq__(self, other):
        # A wheel whose names are unlike comes again behind just as many days as it has names.
        return isinstance(other, Wheel) and names_from_nought(self) == names_from_nought(other)

    def __str__(self):
        return " ".join(names_from_nought(self))

    def __repr__(self):
        return f"Wheel({list(self.names)!r}, first={numeral(self.first)})"


def names_from_nought(wheel):
    """Tell the names of a wheel in their order, from that of the day 0 on."""
    at = -wheel.first % len(wheel.names)
    return wheel.names[at:] + wheel.names[:at]


def named_day(wheel, name):
    """Tell a day that has the name; refused where no day has."""
    if name not in wheel.names:
        raise NoName(name)
    return wheel.first + wheel.names.index(name)


def first_alike(day, step, after):
    """Tell the first day from after on that lies whole steps from the day."""
    return after + (day - after) % step


def meet(wheels, wants, after=0):
    """Tell the first day from after on that has by each wheel its name; refused where there is none."""
    days = [named_day(wheel, name) for wheel, name in zip(wheels, wants)]
    refuse_apart(wheels, days)
    day, step = 0, 1
    for wheel, wished in zip(wheels, days):
        day = meeting_day(day, step, wished, len(wheel))
        step = common_multiple(step, len(wheel))
    return first_alike(day, step, after)


def refuse_apart(wheels, days):
    """Refuse wheels of which two never stand as on these days together."""
    for one in range(len(wheels)):
        for two in range(one + 1, len(wheels)):
            if (days[two] - days[one]) % common_divisor(len(wheels[one]), len(wheels[two])) != 0:
                raise NoDay(one, two)


def meeting_day(one, one_step, two, two_step):
    """Tell a day that lies whole steps from both days, each with its own step; there is such a day."""
    common = common_divisor(one_step, two_step)
    rest = two_step // common
    return one + (two - one) // common * inverse(one_step // common, rest) % rest * one_step


def inverse(number, modulus):
    """Tell a factor by which the number leaves 1 over from whole moduli; the two have no divisor in common."""
    # Euclid's algorithm, which keeps for each remainder how many times the number it is, but for whole moduli.
    one, two = modulus, number % modulus
    one_times, two_times = 0, 1
    while two != 0:
        part = one // two
        one, two = two, one - part * two
        one_times, two_times = two_times, one_times - part * two_times
    return one_times


def meet_round(wheels):
    """Tell the least days above 0 behind which all wheels stand alike again."""
    days = 1
    for wheel in wheels:
        days = common_multiple(days, len(wheel))
    return days
