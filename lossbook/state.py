"""What the house holds: its members, its own pieces and sums, and at most one event."""


class Member:
    def __init__(self, key, margin, fund, gain, weight):
        self.key = key
        self.margin = margin
        self.fund = fund
        self.gain = gain
        self.weight = weight


class House:
    def __init__(self):
        self.members = {}
        self.first = 0
        self.last = 0
        self.multiple = 0
        self.called = 0
        self.unpaid = 0
        # An event is open just while there is a defaulter, which is still one of the members; the loss is its.
        self.defaulter = None
        self.loss = 0
