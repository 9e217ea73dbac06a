"""A box: its door, what lies in it, its codes, and what a deed does to it."""


class Told:
    """What one deed did.

    That is its report, whether a parcel was laid into the box, the kinds of faults, and the moments whose rules were
    carried out.
    """

    def __init__(self):
        self.letters = []
        self.opened = False
        self.got = []
        self.lays = False
        self.wrongs = []
        self.moments = []

    def report(self):
        """Return the letters, whether the box was opened, and what was taken."""
        return (self.letters, self.opened, self.got)


class Box:
    """A box as it is at the beginning.

    The keys of valid, sent and served are parcels: those whose codes are valid, those whose codes were sent, and
    those that were taken by the persons to whom they are sent. The methods named after deeds return what was told.
    """

    def __init__(self):
        self.ajar = False
        self.inside = []
        self.taken_for = "free"
        self.valid = {}
        self.age = None
        self.last = None
        self.sent = {}
        self.served = {}

    def copied(self):
        """Return another box that stands as this one does."""
        twin = Box()
        twin.ajar = self.ajar
        twin.inside = list(self.inside)
        twin.taken_for = self.taken_for
        twin.valid = dict(self.valid)
        twin.age = self.age
        twin.last = self.last
        twin.sent = dict(self.sent)
        twin.served = dict(self.served)
        return twin

    def stands(self):
        """Return how the box stands: the door, what lies inside, taken for what, valid codes, days."""
        return (self.ajar, list(self.inside), self.taken_for, sorted(self.valid), self.age)

    def bring(self, book, parcel, lays, shuts):
        """Let a courier come with this parcel, whose number is above those of all earlier ones."""
        told = Told()
        if self.taken_for != "free":
            return told
        told.opened = True
        self.ajar = True
        self.age = 0
        self.last = parcel
        self._carry_out(book, "given", told)
        if lays and self.ajar:
            if self.inside:
                told.wrongs.append("two")
            self.inside.append(parcel)
            told.lays = True
        self._go_away(book, shuts, ("laid", "left"), told)
        return told

    def code(self, book, parcel, takes, shuts):
        """Let the person to whom this parcel is sent enter its code."""
        told = Told()
        if parcel not in self.valid:
            if parcel in self.inside and parcel in self.sent:
                told.wrongs.append("refused")
            return told
        missing = parcel not in self.inside and parcel not in self.served
        told.opened = True
        self.ajar = True
        self._carry_out(book, "opened", told)
        if takes and self.ajar:
            self._let_take(parcel, told)
        if missing:
            told.wrongs.append("empty")
        self._go_away(book, shuts, ("taken", "gone"), told)
        return told

    def pass_by(self):
        """Let a stranger come by."""
        told = Told()
        if self.ajar:
            self._let_take(None, told)
        return told

    def day(self, book):
        """Let a day pass."""
        told = Told()
        if self.age is not None:
            self.age += 1
            if self.age == book.days():
                self._carry_out(book, "late", told)
        return told

    def power(self, book):
        """Let the power fail and come back."""
        told = Told()
        self._carry_out(book, "power", told)
        return told

    def _let_take(self, own, told):
        """Let somebody take all that lies here; own is the parcel that is sent to them, None for a stranger."""
        told.got = self.inside
        self.inside = []
        if own in told.got:
            self.served[own] = True
        if any([parcel != own for parcel in told.got]):
            told.wrongs.append("wrong")

    def _go_away(self, book, shuts, moments, told):
        """Let a courier or a person shut the door or leave it, if no rule has locked it before."""
        if not self.ajar:
            return
        when_shut, when_left = moments
        if shuts:
            self.ajar = False
            self._carry_out(book, when_shut, told)
        else:
            self._carry_out(book, when_left, told)

    def _carry_out(self, book, moment, told):
        """Carry out the rule for a moment."""
        told.moments.append(moment)
        for action in book.rule(moment):
            self._act(action, told)

    def _act(self, action, told):
        """Carry out one action."""
        if action == "code":
            self._send_code(told)
        elif action == "void":
            self.valid = {}
        elif action == "look":
            self.taken_for = "full" if self.inside else "free"
        elif action == "lock":
            self.ajar = False
        else:
            self.taken_for = action

    def _send_code(self, told):
        """Make the code of the last parcel valid and send it, if there is one and the box is taken for full."""
        if self.taken_for == "full" and self.last is not None:
            self.valid[self.last] = True
            self.sent[self.last] = True
            told.letters.append(self.last)


def do_deed(book, box, deed, parcel):
    """Do a deed at a box and return what was done; a courier brings this parcel."""
    word = deed[0]
    if word == "bring":
        return box.bring(book, parcel, deed[1], deed[2])
    if word == "code":
        return box.code(book, deed[1], deed[2], deed[3])
    if word == "pass":
        return box.pass_by()
    if word == "day":
        return box.day(book)
    return box.power(book)
