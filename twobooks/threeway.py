"""One thing as the base, the left and the right have it."""

from twobooks.kinds import LEFT, RIGHT


def agreed(base, left, right):
    """What the sides agree on, or None where both changed it in different ways."""
    if left == base:
        return right
    if right == base:
        return left
    if left == right:
        return left
    return None


def chosen(choice, base, left, right):
    if choice == LEFT:
        return left
    if choice == RIGHT:
        return right
    return base
