"""Ways of a case: how numbers are told apart, by tables and by splits, at the least price."""

from begunended.errors import BadNumbers
from begunended.values import MAXINT, is_integer

MOST_NUMBERS = 64
WIDEST_TABLE = 63
BASE_PRICE = 4


def case_way(numbers):
    """The least price of a way for these numbers, and the first such way."""
    if not are_numbers(numbers):
        raise BadNumbers(numbers)
    prices = least_prices(numbers)
    return prices[(0, len(numbers))], way_of(numbers, prices, 0, len(numbers))


def are_numbers(value):
    """Whether this is an ascending tuple of one to sixty-four integers, at most maxint either way."""
    if not isinstance(value, tuple) or not 1 <= len(value) <= MOST_NUMBERS:
        return False
    if not all([is_integer(number) and -MAXINT <= number <= MAXINT for number in value]):
        return False
    return all([one < other for one, other in zip(value, value[1:])])


def least_prices(numbers):
    """The dict of the least prices of ways for the numbers from a begin up to an end."""
    prices = {}
    for many in range(1, len(numbers) + 1):
        for begin in range(len(numbers) - many + 1):
            end = begin + many
            found = [BASE_PRICE + prices[(begin, at)] + prices[(at, end)] for at in range(begin + 1, end)]
            if is_table(numbers, begin, end):
                found.append(table_price(numbers, begin, end))
            prices[(begin, end)] = min(found)
    return prices


def is_table(numbers, begin, end):
    return numbers[end - 1] - numbers[begin] <= WIDEST_TABLE


def table_price(numbers, begin, end):
    return BASE_PRICE + numbers[end - 1] - numbers[begin]


def way_of(numbers, prices, begin, end):
    """The first of the ways with the least price: a table, else the split at the least number."""
    price = prices[(begin, end)]
    if is_table(numbers, begin, end) and table_price(numbers, begin, end) == price:
        return "table", numbers[begin], numbers[end - 1]
    at = begin + 1
    while BASE_PRICE + prices[(begin, at)] + prices[(at, end)] != price:
        at += 1
    return "split", numbers[at - 1], way_of(numbers, prices, begin, at), way_of(numbers, prices, at, end)
