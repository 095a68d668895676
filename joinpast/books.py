"""Books of rules."""

from joinpast.leastform import follows, least_rules, shared_rules, short_rules
from joinpast.rowsets import require_rows, require_same_rows, row_set
from joinpast.sums import ordered, rows_of


class Book:
    """Rules that tie the entries of rows; `rules` is their least form."""

    def __init__(self, rows, rules):
        named = row_set(rows)
        for rule in rules:
            require_rows([term[0] for term in rule], named)
        self.rows = named
        self.given = tuple([ordered(rule) for rule in rules])
        self.rules = least_rules(named, self.given)

    @classmethod
    def free(cls, rows):
        """Return the book without rules."""
        return cls(rows, [])

    @classmethod
    def zero(cls, rows):
        """Return the book that only the family of zeros keeps."""
        return cls(rows, [[(row, 0, 1)] for row in row_set(rows)])

    @property
    def free_count(self):
        """The number of rows minus the number of rules of the least form."""
        return len(self.rows) - len(self.rules)

    def __and__(self, other):
        rows = sorted(set(self.rows + other.rows))
        return least_book(rows, short_rules(self.rows, self.rules) + short_rules(other.rows, other.rules))

    def __add__(self, other):
        require_same_rows(self.rows, other.rows)
        one = short_rules(self.rows, self.rules)
        two = short_rules(other.rows, other.rules)
        return least_book(self.rows, shared_rules(self.rows, one, two))

    def __contains__(self, terms):
        plain = ordered(terms)
        if any([row not in self.rows for row in rows_of(plain)]):
            return False
        return follows(self.rows, self.rules, plain)

    def __eq__(self, other):
        return isinstance(other, Book) and self.rows == other.rows and self.rules == other.rules

    def __len__(self):
        return len(self.rules)

    def __iter__(self):
        return iter(self.rules)


def least_book(rows, rules):
    """Return the book of these rules that has its least form as given rules."""
    return Book(rows, Book(rows, rules).rules)
