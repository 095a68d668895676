"""Which rows can be chosen out of several."""


def choices(rows, count):
    """Return all tuples of `count` of the rows, in ascending order.

    The rows are passed in ascending order.
    """
    found = [((), 0)]
    for _ in range(count):
        found = [
            (chosen + (rows[at],), at + 1)
            for chosen, start in found
            for at in range(start, len(rows))
        ]
    return [chosen for chosen, _ in found]
