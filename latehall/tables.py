"""Tables of a library's gives, by the numbers of their words: chains and a sieve."""

from latehall.meanings import first_meant, fits
from latehall.things import are_same, is_whole

MOST_BUCKETS = 16
MOST_WIDTH = 64


def word_number(word):
    """The number of a word."""
    number = 0
    for letter in word:
        number = (33 * number + ord(letter) - ord("a") + 1) % 2 ** 32
    return number


def table_of(library, *, buckets=4, width=32):
    """The table of a library: (buckets, width, chains, sieve)."""
    numbers = [word_number(give[0]) for give in library[2]]
    chains = [
        tuple([give for give, number in enumerate(numbers) if number % buckets == place])
        for place in range(buckets)
    ]
    sieve = 0
    for number in numbers:
        for bit in _bits_of(number, width):
            sieve = sieve | 1 << bit
    return (buckets, width, tuple(chains), sieve)


def is_table(library, thing):
    """Whether a thing is a table of a library."""
    if not isinstance(thing, tuple) or len(thing) != 4:
        return False
    buckets, width = thing[:2]
    if not _is_number_to(buckets, MOST_BUCKETS) or not _is_number_to(width, MOST_WIDTH):
        return False
    return are_same(thing, table_of(library, buckets=buckets, width=width))


def sought(library, table, use, *, faint=False):
    """What is found in a library's table for a use: ("give", number), or the
    paper of a miss."""
    buckets, width, chains, sieve = table
    number = word_number(use[0])
    lacking = [bit for bit in _bits_of(number, width) if not sieve >> bit & 1]
    if lacking:
        return ("bit", min(lacking))
    chain = chains[number % buckets]
    fitting = [(give, library[2][give][3]) for give in chain if fits(library[2][give], use)]
    found = first_meant(fitting, faint)
    return ("chain", chain) if found is None else ("give", found[0])


def is_sought(library, table, use, thing, *, faint=False):
    """Whether a thing is what is found in a library's table for a use."""
    return are_same(thing, sought(library, table, use, faint=faint))


def _bits_of(number, width):
    return (number % width, number // 32 % width)


def _is_number_to(thing, most):
    return is_whole(thing) and 1 <= thing <= most
