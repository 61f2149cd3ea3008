"""Broken numbers, as pairs (N, D) of integers, D from 1 on: N / D."""

from math import gcd


def lowest(number, parts):
    """number / parts in lowest terms."""
    most = gcd(number, parts)
    return (number // most, parts // most)


def is_less(one, other):
    """Whether a broken number is less than another one."""
    return one[0] * other[1] < other[0] * one[1]


def added(one, other):
    """Two broken numbers added, in lowest terms."""
    return lowest(one[0] * other[1] + other[0] * one[1], one[1] * other[1])


def least_of(numbers):
    """The least one of some broken numbers."""
    least = numbers[0]
    for number in numbers:
        if is_less(number, least):
            least = number
    return least


def greatest_of(numbers):
    """The greatest one of some broken numbers."""
    most = numbers[0]
    for number in numbers:
        if is_less(most, number):
            most = number
    return most


def rounded_up(number):
    """The least integer that is at least a broken number."""
    return -(-number[0] // number[1])
