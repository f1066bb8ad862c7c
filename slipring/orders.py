"""Orders: lists of one part or more, no more than the ring has places."""

from slipring.errors import BadOrder


def order_of(size, order):
    """A list of its own with the order's parts; refuse what is no order for the size."""
    if len(order) < 1 or len(order) > size:
        raise BadOrder("an order has at least one part, and no more than the ring has places")
    return list(order)


def orders_of(size, orders):
    """Such a list for each of the orders; refuse where one of them is none."""
    return [order_of(size, order) for order in orders]


def orders_told(orders):
    """The orders as lists that are the asker's own."""
    return [list(order) for order in orders]
