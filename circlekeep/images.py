"""Images: what becomes of sets of mates, which are integers here, with a bit for the number of each mate."""


def bits_of(numbers):
    """The set of some numbers."""
    return sum([1 << number for number in numbers])


def numbers_in(bits):
    """The numbers in a set, ascending."""
    found = []
    while bits:
        least = bits & -bits
        found.append(least.bit_length() - 1)
        bits -= least
    return found


class Images:
    """What becomes of the mates of a follower.

    With a mate all those that follow it while the group sees nothing are in a set, so where it sees nothing a set
    stays as it is.
    """

    def __init__(self, follower):
        self.follower = follower
        self.known = {}

    def image_of(self, number, sight):
        """The mates that follow a mate for a sight."""
        if sight is None:
            return 1 << number
        if (number, sight) not in self.known:
            self.known[number, sight] = bits_of(self.follower.moving(number, sight))
        return self.known[number, sight]

    def image(self, bits, sight):
        """The mates that follow some mates for a sight."""
        if sight is None:
            return bits
        found = 0
        for number in numbers_in(bits):
            found |= self.image_of(number, sight)
        return found
