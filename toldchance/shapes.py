"""The shapes that a class of a distribution may have: a line or a comb.

Both hold their two fractions as they are told, and once more as whole numbers over
one bottom: origin is the x of both, rise the way from x to y or from tooth to tooth.
Both answer the same questions:

at: the value where t of the class's span is gone.
told_numbers: the six numbers by which a class is told.
far_end: the end across from x, the last tooth of a comb.
doubled_mean: twice the mean, over the bottom.
sixfold_square: six times the mean of the square, over the square of the bottom.
part_below: the part of the class that is at most v, or below v.
bent: the shape with each value turned to factor times value plus summand.

line_of and comb_of make a shape; they and bent give None where one is not right.
"""

from toldchance.checks import MOST_TEETH, within
from toldchance.ratios import Ratio, common_measure, right_ratio


class Line:
    def __init__(self, x, y):
        self.x = x
        self.y = y
        self.bottom = common_bottom(x, y)
        self.origin = whole_over(x, self.bottom)
        self.rise = whole_over(y, self.bottom) - self.origin

    def at(self, t, span):
        return Ratio(self.origin * span + self.rise * t, self.bottom * span)

    def told_numbers(self):
        return [0, self.x.top, self.x.bottom, self.y.top, self.y.bottom, 0]

    def far_end(self):
        return self.y

    def doubled_mean(self):
        return 2 * self.origin + self.rise

    def sixfold_square(self):
        return 6 * self.origin * (self.origin + self.rise) + 2 * self.rise * self.rise

    def part_below(self, v, strict):
        if self.rise == 0:
            return Ratio(1 if room_below(self.origin, self.bottom, v) >= strict else 0, 1)
        width = abs(self.rise) * v.bottom
        room = room_below(min(self.origin, self.origin + self.rise), self.bottom, v)
        return Ratio(clamped(room, width), width)

    def bent(self, factor, summand):
        return line_of(turned(self.x, factor, summand), turned(self.y, factor, summand))


class Comb:
    def __init__(self, x, gap, teeth):
        self.x = x
        self.gap = gap
        self.teeth = teeth
        self.bottom = common_bottom(x, gap)
        self.origin = whole_over(x, self.bottom)
        self.rise = whole_over(gap, self.bottom)

    def at(self, t, span):
        return Ratio(self.origin + self.rise * (t * self.teeth // span), self.bottom)

    def told_numbers(self):
        return [1, self.x.top, self.x.bottom, self.gap.top, self.gap.bottom, self.teeth]

    def far_end(self):
        return Ratio(self.origin + self.rise * (self.teeth - 1), self.bottom)

    def doubled_mean(self):
        return 2 * self.origin + self.rise * (self.teeth - 1)

    def sixfold_square(self):
        way = self.rise * (self.teeth - 1)
        return 6 * self.origin * (self.origin + way) + self.rise * way * (2 * self.teeth - 1)

    def part_below(self, v, strict):
        # In whole numbers to be below is to be at most one less.
        room = room_below(self.origin, self.bottom, v) - strict
        step = abs(self.rise) * v.bottom
        if self.rise == 0:
            reached = self.teeth if room >= 0 else 0
        elif self.rise > 0:
            reached = room // step + 1
        else:
            reached = self.teeth + room // step
        return Ratio(clamped(reached, self.teeth), self.teeth)

    def bent(self, factor, summand):
        gap = self.gap.times(factor)
        return comb_of(turned(self.x, factor, summand), right_ratio(gap.top, gap.bottom), self.teeth)


def common_bottom(one, other):
    return one.bottom * (other.bottom // common_measure(one.bottom, other.bottom))


def whole_over(ratio, bottom):
    return ratio.top * (bottom // ratio.bottom)


# How far v lies above top / bottom, counted in parts of 1 / (bottom times v's bottom).
def room_below(top, bottom, v):
    return v.top * bottom - top * v.bottom


def clamped(number, most):
    return max(0, min(number, most))


def turned(ratio, factor, summand):
    result = ratio.times(factor).plus(summand)
    return right_ratio(result.top, result.bottom)


def line_of(x, y):
    if x is None or y is None:
        return None
    return Line(x, y)


def comb_of(x, gap, teeth):
    if x is None or gap is None or not within(teeth, 1, MOST_TEETH):
        return None
    return Comb(x, gap, teeth)
