"""What a turner makes of a letter, and what it hands on."""


def makes(table, turner, letter):
    """The letter that the turner makes of the letter."""
    if turner == 0:
        return letter
    swaps = table[1][abs(turner) - 1][0]
    if turner > 0:
        return swaps[letter]
    return swaps.index(letter)


def hands_on(table, turner, letter):
    """The turner that the turner hands on at the letter."""
    if turner == 0:
        return 0
    parts = table[1][abs(turner) - 1][1]
    if turner > 0:
        return parts[letter]
    return -parts[makes(table, turner, letter)]
