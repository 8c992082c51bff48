"""What is told of five points, and of a form and a line; each answer shows whether it is right."""

from onemeet.checks import is_form, is_triple, is_whole
from onemeet.forms import form_of, in_line, points_of_both, rest_of, three_in_line


class Answer:
    """What is told of five points, or of a form and a line."""


class Oval(Answer):
    """The one form that five points are on, no three of them being on one line."""

    def __init__(self, form):
        self.form = form

    def shows(self, prime, five):
        """Whether no three of the five points are on one line, and this is their form."""
        if three_in_line(prime, five):
            return False
        return is_form(prime, self.form) and self.form == form_of(prime, five)


class InLine(Answer):
    """Three of five points that are on one line, by their counts in the list."""

    def __init__(self, three):
        self.three = list(three)

    def shows(self, prime, five):
        """Whether these are the rising counts of three of the five points that are on one line."""
        if len(self.three) != 3 or not all([is_whole(count) for count in self.three]):
            return False
        one, other, third = self.three
        if not 0 <= one < other < third < len(five):
            return False
        return in_line(prime, five[one], five[other], five[third])


class Shared(Answer):
    """All points, one or more, that are on a form and on a line."""

    def __init__(self, points):
        self.points = list(points)

    def shows(self, prime, form, line):
        """Whether these are all points that are on both, in order, and there is one."""
        if not all([is_triple(prime, point) for point in self.points]):
            return False
        return len(self.points) > 0 and self.points == points_of_both(prime, form, line)


class Apart(Answer):
    """The rest of a line by a form that no point is on both of."""

    def __init__(self, rest):
        self.rest = rest

    def shows(self, prime, form, line):
        """Whether this is the rest, and no number's square leaves it."""
        if self.rest != rest_of(prime, form, line):
            return False
        return all([number * number % prime != self.rest for number in range(prime)])
