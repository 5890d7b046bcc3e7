"""Every refusal of the program, each a class of its own straight under BandError."""


class BandError(ValueError):
    pass


class NoSigns(BandError):
    pass


class TooMany(BandError):
    def __init__(self, many):
        BandError.__init__(self, f"{many} barred words are too many")
        self.many = many


class NoWord(BandError):
    def __init__(self, number):
        BandError.__init__(self, f"thing {number} of the list is no word of the signs")
        self.number = number


class NoRow(BandError):
    def __init__(self, number):
        BandError.__init__(self, f"sign {number} of the row is none of the band's")
        self.number = number


class Barred(BandError):
    def __init__(self, length):
        BandError.__init__(self, f"a barred word ends the first {length} signs of the row")
        self.length = length


class NoPlace(BandError):
    # The thing may be of any kind, so its looks stay out of the words.
    def __init__(self, place):
        BandError.__init__(self, "this is no such place of the band's")
        self.place = place


class NoNumber(BandError):
    pass


class NoRate(BandError):
    pass


class NoSplit(BandError):
    pass


class NoLength(BandError):
    def __init__(self, length):
        BandError.__init__(self, f"{length} signs are no length that can be read")
        self.length = length


class Scarce(BandError):
    def __init__(self, length, rows):
        BandError.__init__(self, f"at {length} blocks there are only {rows} good rows")
        self.length = length
        self.rows = rows


class Open(BandError):
    pass


class NoData(BandError):
    def __init__(self, number):
        BandError.__init__(self, f"not a row of data (thing {number})")
        self.number = number


class NoForm(BandError):
    pass


class NoBand(BandError):
    pass


class NoWriter(BandError):
    pass
