"""The closing of a machine: all tables that can be made of those of its letters, each with a pattern."""

from onepurse.errors import BadSize, TooWide
from onepurse.tables import is_steady, letter_table, raised_steady, read_off, row_times

MOST_TABLES = 400


class Factor:
    """A table that others are multiplied by, with its pattern."""

    def __init__(self, pattern, table):
        self.pattern = pattern
        self.table = table
        # Many tables share rows, so the product of each row with this table is reckoned only once.
        self.known_rows = {}

    def behind_row(self, row):
        """The product of a row of marks with this table."""
        if row not in self.known_rows:
            self.known_rows[row] = row_times(row, self.table)
        return self.known_rows[row]

    def behind_table(self, table):
        """The product of a table with this one."""
        return tuple([self.behind_row(row) for row in table])


def add_table(found, table, pattern, most):
    """Adds a table that is not found yet, and refuses one beyond the bound."""
    if len(found) == most:
        raise TooWide(most)
    found[table] = pattern


def add_products(found, tables, factors, most):
    """Adds what is new among the products of some found tables with some factors; tells the list of what was added."""
    added = []
    for table in tables:
        for factor in factors:
            made = factor.behind_table(table)
            if made not in found:
                add_table(found, made, found[table] + factor.pattern, most)
                added.append(made)
    return added


def add_factors(found, factors, most):
    """Adds the tables of factors, as far as they are new; tells the list of what was added."""
    added = []
    for factor in factors:
        if factor.table not in found:
            add_table(found, factor.table, factor.pattern, most)
            added.append(factor.table)
    return added


def raised_factors(found, tables):
    """The factors of raised tables that are not found yet, of those among some found tables that are steady."""
    fresh = {}
    for table in tables:
        if is_steady(table):
            made = raised_steady(table)
            if made not in found and made not in fresh:
                fresh[made] = Factor(f"({found[table]})", made)
    return list(fresh.values())


def patterns_by_table(machine, most):
    """A pattern for each table of the closing.

    Each table is a product of factors, which are letters' tables and raised ones, so products with factors reach all.
    Raised ones are taken in only when all products of the earlier factors are found: so no pattern is deeper
    than it has to be.
    """
    found = {}
    factors = []
    fresh = [Factor(letter, letter_table(machine, letter)) for letter in machine.letters()]
    while fresh:
        before = list(found)
        factors = factors + fresh
        newest = add_factors(found, fresh, most)
        newest = newest + add_products(found, before, fresh, most)
        added = newest
        while newest:
            newest = add_products(found, newest, factors, most)
            added = added + newest
        fresh = raised_factors(found, added)
    return found


def closing(machine, *, most=MOST_TABLES):
    """The pairs (pattern, table) of all tables of the closing, each table once."""
    if not 1 <= most <= MOST_TABLES:
        raise BadSize()
    return [(pattern, table) for table, pattern in patterns_by_table(machine, most).items()]


def dear_pattern(machine, *, most=MOST_TABLES):
    """A pattern whose table reads `dear`, or None where no table of the closing does."""
    for pattern, table in closing(machine, most=most):
        if read_off(machine, table) == "dear":
            return pattern
    return None
