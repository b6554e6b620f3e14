"""All refusals: LookError for what is handed in, HallError for what a hall can't do now."""


class LookError(ValueError):
    """Something that was handed in is refused; `word` is the name of the refusal."""

    def __init__(self, why="", word="LookError"):
        ValueError.__init__(self, why or word)
        self.word = word


class BadPrime(LookError):
    """A prime that is none of PRIMES."""

    def __init__(self, why=""):
        LookError.__init__(self, why, "BadPrime")


class BadRest(LookError):
    """A number that is no rest by the prime."""

    def __init__(self, why=""):
        LookError.__init__(self, why, "BadRest")


class NoBack(LookError):
    """The rest nought, which no rest times to 1."""

    def __init__(self, why=""):
        LookError.__init__(self, why, "NoBack")


class BadLine(LookError):
    """Rests that are no line."""

    def __init__(self, why=""):
        LookError.__init__(self, why, "BadLine")


class BadTable(LookError):
    """Rests that are no table."""

    def __init__(self, why=""):
        LookError.__init__(self, why, "BadTable")


class BadPlace(LookError):
    """Rests that are no place, or a corner that isn't there."""

    def __init__(self, why=""):
        LookError.__init__(self, why, "BadPlace")


class BadSquare(LookError):
    """Rows that are no square, or squares of unlike sizes."""

    def __init__(self, why=""):
        LookError.__init__(self, why, "BadSquare")


class BadText(LookError):
    """A text that is no saying; `at` is the place of the first wrong sign."""

    def __init__(self, at=0):
        LookError.__init__(self, f"the sign at {at} can not stand there", "BadText")
        self.at = at


class BadSaying(LookError):
    """A tuple that is no saying."""

    def __init__(self, why=""):
        LookError.__init__(self, why, "BadSaying")


class BadQuestion(LookError):
    """A number that a question can't have."""

    def __init__(self, why=""):
        LookError.__init__(self, why, "BadQuestion")


class BadCoins(LookError):
    """Coins that are too few, too many or no rests."""

    def __init__(self, why=""):
        LookError.__init__(self, why, "BadCoins")


class BadLetter(LookError):
    """A letter of another form than the awaited one."""

    def __init__(self, why=""):
        LookError.__init__(self, why, "BadLetter")


class TooMany(LookError):
    """A count that is too great to go through."""

    def __init__(self, why=""):
        LookError.__init__(self, why, "TooMany")


class BadName(LookError):
    """A text that is no name of a talk."""

    def __init__(self, why=""):
        LookError.__init__(self, why, "BadName")


class BadPage(LookError):
    """A text that is no page; `row` is the number of its first wrong row."""

    def __init__(self, row=0):
        LookError.__init__(self, f"row {row} isn't right", "BadPage")
        self.row = row


class HallError(LookupError):
    """Something can't be done as things stand; `word` is the name of the refusal."""

    def __init__(self, why="", word="HallError"):
        LookupError.__init__(self, why or word)
        self.word = word


class NoTalk(HallError):
    """No talk of this name."""

    def __init__(self, why=""):
        HallError.__init__(self, why, "NoTalk")


class Taken(HallError):
    """A talk of this name is there already."""

    def __init__(self, why=""):
        HallError.__init__(self, why, "Taken")


class Full(HallError):
    """The hall has as many talks as it can have."""

    def __init__(self, why=""):
        HallError.__init__(self, why, "Full")


class Over(HallError):
    """No letter is awaited any more."""

    def __init__(self, why=""):
        HallError.__init__(self, why, "Over")


class Nothing(HallError):
    """Nothing to take back, or to do again."""

    def __init__(self, why=""):
        HallError.__init__(self, why, "Nothing")


class Stopped(HallError):
    """One of many deeds was refused: its place `at`, and the word of its refusal as `kind`."""

    def __init__(self, at=0, kind=""):
        HallError.__init__(self, f"the deed at {at} was refused: {kind}", "Stopped")
        self.at = at
        self.kind = kind
