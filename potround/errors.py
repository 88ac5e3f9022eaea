"""The refusals of the hall."""


class HallError(ValueError):
    """What all refusals but NoSuch stand under."""


class BadTally(HallError):
    """A text that is no tally."""


class Never(HallError):
    """A colour that may never be filled where another one was last."""

    def __init__(self, ahead, behind):
        super().__init__(f"{behind} may never follow {ahead}")
        self.ahead = ahead
        self.behind = behind


class Full(HallError):
    """A tunnel that has no free slot."""

    def __init__(self, slots):
        super().__init__(f"none of {slots} slots is free")
        self.slots = slots


class BadRow(HallError):
    """A row of a text that can't stand."""

    def __init__(self, row):
        super().__init__(f"row {row} can't stand")
        self.row = row


class NoSuch(LookupError):
    """Something asked for that isn't there."""

    def __init__(self, what, name):
        # The name may be of any make, one that can't be written out too, so the words leave it to the field.
        super().__init__(f"no such {what}")
        self.what = what
        self.name = name
