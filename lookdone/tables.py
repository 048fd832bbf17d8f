"""The cells of all tables at one moment."""


class Tables:
    """Cells, each 0 until it is written."""

    def __init__(self):
        # For each (table, column) a dict from the keys that were written.
        self.columns = {}
        # The columns that no other Tables has: these may be changed in place.
        self.owned = {}

    def branch(self):
        """New Tables with the same cells; what is written to them is not written here."""
        other = Tables()
        other.columns = {name: self.columns[name] for name in self.columns}
        # Columns are shared from now on, so neither of the two owns one.
        self.owned = {}
        return other

    def cell(self, table, key, column):
        """The value of the cell."""
        return self.columns.get((table, column), {}).get(key, 0)

    def write(self, table, key, column, value):
        """Give the cell this value."""
        name = (table, column)
        if name not in self.owned:
            old = self.columns.get(name, {})
            self.columns[name] = {one: old[one] for one in old}
            self.owned[name] = True
        self.columns[name][key] = value

    def present(self, table):
        """The keys that are present in the table, ascending."""
        column = self.columns.get((table, "in"), {})
        return sorted([key for key in column if column[key] != 0])
