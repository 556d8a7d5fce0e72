"""Dealings by tables that serve several walks at once, or trees that bar each one."""

from bankwalk.dealings import number_of
from bankwalk.walks import starts, words_of


def meeting(rows, columns, walks):
    """The rising list of the pairs (x, y), x below y, of the numbers of words that meet."""
    # Which words meet is the same by every dealing of the table, so the plainest one is asked.
    dealing = ("skew", rows, columns, 1, 0, 0)
    met = set()
    for walk in walks:
        for start in starts(dealing, walk):
            numbers = sorted([number_of(dealing, word) for word in words_of(dealing, walk, start)])
            for at, y in enumerate(numbers):
                for x in numbers[:at]:
                    met.add((x, y))
    return sorted(met)


def lesser_met(rows, columns, walks):
    """The list with for each word, by its number, the rising list of the lesser ones that it meets."""
    lesser = [[] for number in range(rows * columns)]
    for x, y in meeting(rows, columns, walks):
        lesser[y].append(x)
    return lesser


def searched(many, choices, bar, row):
    """("row", the first row that is nowhere barred) of those of many numbers that begin as row does.

    Where all of them are barred, ("none", the node that does so). choices(row) tells how many numbers, from 0 on,
    may stand behind row; bar(row) what bars row by its last number, None where nothing does.
    """
    if len(row) == many:
        return ("row", row)
    node = []
    for number in range(choices(row)):
        longer = row + [number]
        part = bar(longer)
        if part is None:
            kind, part = searched(many, choices, bar, longer)
            if kind == "row":
                return ("row", part)
        node.append(part)
    return ("none", tuple(node))


def bank_choices(banks, row):
    """How many banks are asked about for the word behind those that have the banks of row."""
    # Banks are taken up in order, so the least one that none has is next to the greatest of row.
    return min(max(row, default=-1) + 2, banks)


def first_barring(lesser, row):
    """The first word that meets the last one of row and has the same bank, None where there is none."""
    for number in lesser[len(row) - 1]:
        if row[number] == row[-1]:
            return number
    return None


def dealt(rows, columns, banks, walks):
    """The table dealing of least cells in which all walks are clear, or ("none", paper)."""
    lesser = lesser_met(rows, columns, walks)
    kind, found = searched(
        rows * columns,
        lambda row: bank_choices(banks, row),
        lambda row: first_barring(lesser, row),
        [],
    )
    if kind == "none":
        return ("none", found)
    return ("table", banks, tuple([tuple(found[i * columns : (i + 1) * columns]) for i in range(rows)]))


def first_all_met(lesser, many, chosen):
    """The first rising tuple of many words that begins as chosen does and meets pair by pair, None without one."""
    if len(chosen) == many:
        return tuple(chosen)
    for number in range(max(chosen, default=-1) + 1, len(lesser)):
        if all([other in lesser[number] for other in chosen]):
            found = first_all_met(lesser, many, chosen + [number])
            if found is not None:
                return found
    return None


def least_dealt(rows, columns, walks):
    """(dealing, paper) of the least banks, the paper ("words", numbers), or ("cases", a tree of one bank fewer)."""
    banks = 1
    tree = None
    told = dealt(rows, columns, banks, walks)
    while told[0] == "none":
        tree = told[1]
        banks += 1
        told = dealt(rows, columns, banks, walks)
    numbers = first_all_met(lesser_met(rows, columns, walks), banks, [])
    if numbers is None:
        return (told, ("cases", tree))
    return (told, ("words", numbers))
