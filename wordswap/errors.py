"""What the program refuses with: one class for each sort of refusal."""


# Whoever asks may take any refusal by this one name.
class SwapError(ValueError):
    def __init__(self, at):
        self.at = at


class NoWeb(SwapError):
    pass


class NoPlan(SwapError):
    pass


class NotJoined(SwapError):
    pass


class NoLeader(SwapError):
    pass


class NoDeed(SwapError):
    pass


class Laid(SwapError):
    pass


class NotLaid(SwapError):
    pass


class Late(SwapError):
    pass


class Unknown(SwapError):
    pass


class NoText(SwapError):
    pass
