"""Day sets: whole numbers whose binary digit of worth 2 ** d says whether day d is in the set."""


def days_in(day_set):
    """Return the days of a day set, ascending."""
    return tuple([day for day in range(day_set.bit_length()) if day_set >> day & 1])


def set_of(days):
    """Return the day set of a sequence of days."""
    day_set = 0
    for day in days:
        day_set = day_set | 1 << day
    return day_set


def size(day_set):
    """Return the number of days of a day set."""
    return len(days_in(day_set))


def within(one, other):
    """Tell whether every day of the first day set is in the second one."""
    return one & ~other == 0
