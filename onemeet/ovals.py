"""The oval of five points, or what bars it, and what a line shares with a form, or what bars that."""

from onemeet.answers import Apart, InLine, Oval, Shared
from onemeet.checks import check_five, check_form, check_line, check_prime, check_unlike
from onemeet.forms import form_of, points_of_both, rest_of, three_in_line


def oval(prime, five):
    """The form of five unlike points as an Oval, or as an InLine three of them that are on one line."""
    check_prime(prime)
    check_five(prime, five)
    check_unlike(five)
    three = three_in_line(prime, five)
    if three:
        return InLine(three)
    return Oval(form_of(prime, five))


def shared(prime, form, line):
    """The points that are on the form and on the line as a Shared, or the line's rest as an Apart."""
    check_prime(prime)
    check_form(prime, form)
    check_line(prime, line)
    points = points_of_both(prime, form, line)
    if points:
        return Shared(points)
    return Apart(rest_of(prime, form, line))
