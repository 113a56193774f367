"""The refusals of the program."""


class RopeError(ValueError):
    pass


class Late(RopeError):
    def __init__(self, rope):
        RopeError.__init__(self, f"rope {rope} is out by its second lighting")
        self.rope = rope


class NoPlan(RopeError):
    pass
