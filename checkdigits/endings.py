"""How often one number of each row can be taken so that the numbers have some sum.

The rows are those of a rule, or what is left of them where a digit is known. A choice has, for each
row, the index of the number that is taken.
"""


def ending_tables(modulus, rows):
    """For each row, and for the end, how many choices from there on have each sum."""
    tables = [[1] + [0] * (modulus - 1)]
    for row in rows[::-1]:
        tables.append(_table_before(row, tables[-1]))
    return tables[::-1]


def counts_by_index(row, table, needed):
    """For each number of a row, how many choices behind it complete the sum that is needed."""
    return [table[(needed - value) % len(table)] for value in row]


def choice_at(rows, tables, needed, number):
    """The choice with a number, in ascending order, among those with the sum that is needed."""
    choice = []
    for row, table in zip(rows, tables[1:]):
        index, number = _index_at(counts_by_index(row, table, needed), number)
        choice.append(index)
        needed = (needed - row[index]) % len(table)
    return choice


def _table_before(row, table):
    """The table of the choices that begin one row before those of a table."""
    modulus = len(table)
    before = [0] * modulus
    for value in row:
        for ending_sum, many in enumerate(table):
            before[(value + ending_sum) % modulus] += many
    return before


def _index_at(counts, number):
    """The index under which the choice with a number falls, and its number among those."""
    index = 0
    while number >= counts[index]:
        number -= counts[index]
        index += 1
    return index, number
