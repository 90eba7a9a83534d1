"""Rings and orders of numbers of which some lead others.

leading is a function of two unlike numbers: whether the one leads the other.
"""

from heapq import heappop, heappush


def first_ring(numbers, number, leading):
    """The first of the shortest rings that begin with a number, None if there is none."""
    met = {number: True}
    # Ways of one length, in their order: so the first one to meet a number is the first of the shortest to it.
    ways = [(number,)] if number in numbers else []
    while ways:
        for way in ways:
            if len(way) > 1 and leading(way[-1], number):
                return way
        further = []
        for way in ways:
            for other in numbers:
                if other not in met and leading(way[-1], other):
                    met[other] = True
                    further.append(way + (other,))
        ways = further
    return None


def first_order(numbers, leading):
    """The tuple of all numbers, each the least that none of those left leads; None by a ring."""
    led = {number: [] for number in numbers}
    ahead = {number: 0 for number in numbers}
    for number in numbers:
        for other in numbers:
            if number != other and leading(number, other):
                led[number].append(other)
                ahead[other] += 1
    free = [number for number in numbers if ahead[number] == 0]
    order = []
    while free:
        number = heappop(free)
        order.append(number)
        for other in led[number]:
            ahead[other] -= 1
            if ahead[other] == 0:
                heappush(free, other)
    return tuple(order) if len(order) == len(numbers) else None
