"""Symmetries because of which all bits are needed."""

from leastlooks.patterns import all_orders

# The prime of which the number of positions is a power, by these numbers.
PRIMES = {2: 2, 3: 3, 4: 2, 5: 5}


def keeping_orders(question):
    """The ascending list of all orders of the positions that leave a question as it is."""
    return [order for order in all_orders(question.many) if question.reordered(order) == question]


def signed_sum(question):
    """The number of the yes inputs with an even number of bits 1 less the number of the others."""
    return sum([-1 if text.count("1") & 1 else 1 for text in question])


def full_prime(question):
    """The prime that shows that all looks are needed, or None."""
    many = question.many
    if many not in PRIMES or question("0" * many) == question("1" * many):
        return None
    found = {(at, position) for order in keeping_orders(question) for at, position in enumerate(order)}
    return PRIMES[many] if len(found) == many * many else None
