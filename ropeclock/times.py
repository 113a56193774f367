"""Moments and stretches of time: fractions of hours as tuples (top, bottom), the bottom a power of two."""

START = (0, 1)


def mean_and_half(one, other):
    bottom = max(one[1], other[1])
    return lowest(top_over(one, bottom) + top_over(other, bottom) + bottom, bottom + bottom)


def hour_behind(one):
    return lowest(one[0] + one[1], one[1])


def earlier(one, other):
    bottom = max(one[1], other[1])
    return top_over(one, bottom) < top_over(other, bottom)


def between(one, other):
    bottom = max(one[1], other[1])
    return lowest(abs(top_over(one, bottom) - top_over(other, bottom)), bottom)


# No time where the other is not later.
def stretch_from(one, other):
    return between(one, other) if earlier(one, other) else START


def in_order(moments):
    bottom = max([moment[1] for moment in moments], default=1)
    return sorted(moments, key=lambda moment: top_over(moment, bottom))


# Bottoms are powers of two, so shifts do for products and quotients, and stay quick for very large numbers.
def top_over(moment, bottom):
    return moment[0] << (bottom.bit_length() - moment[1].bit_length())


def lowest(top, bottom):
    if top == 0:
        return START
    halvings = min(twos_in(top), twos_in(bottom))
    return (top >> halvings, bottom >> halvings)


def twos_in(number):
    return (number & -number).bit_length() - 1
