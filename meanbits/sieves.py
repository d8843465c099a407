"""Sieves: weights that read rows back."""

from meanbits.parts import part_of


def weights(lengths):
    """At each place in how many ways it is the sum of one number from 0 to below each length."""
    ways = [1]
    for length in lengths:
        wider = [0] * (len(ways) + length - 1)
        for place, many in enumerate(ways):
            for more in range(length):
                wider[place + more] += many
        ways = wider
    return ways


def sieved(row, lengths):
    """The list of the sums of weights times bits, for each place at which the weights lie within the row."""
    heavy = weights(lengths)
    bits = [int(bit) for bit in row]
    sums = []
    for place in range(len(bits) - len(heavy) + 1):
        sums.append(sum([weight * bit for weight, bit in zip(heavy, bits[place:place + len(heavy)])]))
    return sums


def product_of(numbers):
    """All numbers, one times the other."""
    product = 1
    for number in numbers:
        product *= number
    return product


def readings(row, lengths):
    """The list of what is sieved by the product of the lengths, parts."""
    whole = product_of(lengths)
    return [part_of(one, whole) for one in sieved(row, lengths)]
