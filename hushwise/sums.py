"""Sums: what an expression comes to."""

# Every number that a box can hold is below this one.
LIMIT = 1000000000000


def value_of(expression, boxes):
    """The number that an expression comes to, by what the boxes hold."""
    if expression[0] == "num":
        return expression[1]
    if expression[0] == "box":
        return boxes[expression[1]]
    if expression[0] == "@":
        return number_at(boxes[expression[1]], value_of(expression[2], boxes))
    return reckoned(expression[0], value_of(expression[1], boxes), value_of(expression[2], boxes))


def number_at(numbers, place):
    """The number at a place of a list box, 0 where it has no such place."""
    return numbers[place] if 0 <= place < len(numbers) else 0


def reckoned(sign, one, other):
    """What a sign makes of two numbers."""
    if sign == "+":
        return (one + other) % LIMIT
    if sign == "-":
        return (one - other) % LIMIT
    if sign == "*":
        return (one * other) % LIMIT
    if sign == "<":
        return 1 if one < other else 0
    return 1 if one == other else 0
