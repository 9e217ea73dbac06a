"""A second, slow telling of the document, written apart from the package, to compare with.

A state is a dict in plain words; all lists of deeds are tried out one after another, without any reasoning about
which parcels or days matter.
"""

MOMENTS = ("given", "laid", "left", "opened", "taken", "gone", "late", "power")
ACTIONS = ("free", "full", "off", "code", "void", "look", "lock")
CARES = ("ajar", "bare", "power", "stranger", "twice")
KINDS = ("two", "wrong", "empty", "refused")


def start():
    return {"open": False, "in": set(), "for": "free", "valid": set(), "days": None,
            "last": None, "sent": set(), "took": set(), "n": 0}


def copied(state):
    return {name: set(value) if isinstance(value, set) else value for name, value in state.items()}


def rule_at(book, state, moment, letters, moments):
    moments.append(moment)
    for action in book.rule(moment):
        if action in ("free", "full", "off"):
            state["for"] = action
        if action == "look":
            state["for"] = "free" if not state["in"] else "full"
        if action == "lock":
            state["open"] = False
        if action == "void":
            state["valid"] = set()
        if action == "code" and state["for"] == "full" and state["last"]:
            state["valid"].add(state["last"])
            state["sent"].add(state["last"])
            letters.append(state["last"])


def deed_at(book, state, deed):
    """Do a deed; return (letters, opened, got), the set of the kinds of faults, and the moments."""
    letters, moments, got, kinds = [], [], set(), set()
    opened = False
    if deed[0] == "bring":
        state["n"] += 1
        if state["for"] == "free":
            opened = True
            state.update({"open": True, "last": state["n"], "days": 0})
            rule_at(book, state, "given", letters, moments)
            if deed[1] and state["open"]:
                if state["in"]:
                    kinds.add("two")
                state["in"].add(state["n"])
            if state["open"]:
                state["open"] = not deed[2]
                rule_at(book, state, "laid" if deed[2] else "left", letters, moments)
    elif deed[0] == "code":
        own = deed[1]
        if own in state["valid"]:
            opened = True
            state["open"] = True
            if own not in state["in"] and own not in state["took"]:
                kinds.add("empty")
            rule_at(book, state, "opened", letters, moments)
            if deed[2] and state["open"]:
                got, state["in"] = state["in"], set()
                if got - {own}:
                    kinds.add("wrong")
                state["took"] |= got & {own}
            if state["open"]:
                state["open"] = not deed[3]
                rule_at(book, state, "taken" if deed[3] else "gone", letters, moments)
        elif own in state["in"] and own in state["sent"]:
            kinds.add("refused")
    elif deed[0] == "pass":
        if state["open"]:
            got, state["in"] = state["in"], set()
            if got:
                kinds.add("wrong")
    elif deed[0] == "day":
        if state["days"] is not None:
            state["days"] += 1
            if state["days"] == book.days():
                rule_at(book, state, "late", letters, moments)
    else:
        rule_at(book, state, "power", letters, moments)
    return (letters, opened, sorted(got)), kinds, moments


def told(book, deeds):
    """Return the reports, the faults, how the box stands, and the moments of each deed."""
    state = start()
    reports, faults, moments = [], [], []
    for index, deed in enumerate(deeds):
        report, kinds, carried = deed_at(book, state, deed)
        reports.append(report)
        faults.extend((kind, index) for kind in KINDS if kind in kinds)
        moments.append(carried)
    stands = (state["open"], sorted(state["in"]), state["for"], sorted(state["valid"]), state["days"])
    return reports, faults, stands, moments


def allows(care, state, deed):
    """Return whether a care allows a deed in a state."""
    if deed[0] == "bring":
        return (deed[1] or "bare" in care) and (deed[2] or "ajar" in care)
    if deed[0] == "code":
        if not deed[3] and "ajar" not in care:
            return False
        return "twice" in care or (deed[2] and deed[1] not in state["took"])
    if deed[0] == "power":
        return "power" in care
    if deed[0] == "pass":
        return "stranger" in care
    return True


def is_allowed(book, care, deeds):
    """Return whether a list of deeds can be played and a care allows it."""
    state = start()
    for deed in deeds:
        if deed[0] == "code" and deed[1] > state["n"] or not allows(care, state, deed):
            return False
        deed_at(book, state, deed)
    return True


def deeds_at(state):
    """Return all deeds that can be played in a state."""
    both = (True, False)
    deeds = [("day",), ("power",), ("pass",)]
    deeds += [("bring", lays, shuts) for lays in both for shuts in both]
    for parcel in range(1, state["n"] + 1):
        deeds += [("code", parcel, takes, shuts) for takes in both for shuts in both]
    return deeds


def frozen(state):
    return tuple(tuple(sorted(value)) if isinstance(value, set) else value for value in state.values())


def clean_steps(book, care, state):
    """Yield each deed that a care allows in a state and that makes nothing go wrong, with its report, the moments
    whose rules are carried out, and the state behind it.
    """
    for deed in deeds_at(state):
        if allows(care, state, deed):
            after = copied(state)
            report, kinds, moments = deed_at(book, after, deed)
            if not kinds:
                yield deed, report, moments, after


def firsts(book, care, most, room=10 ** 9):
    """Try all lists of at most so many deeds; return the least number with a fault of each kind at the last deed
    and none before, the moments of the clean lists, and the number of deeds up to which all lists were tried.
    """
    least, carried = {}, set()
    states = {frozen(start()): start()}
    seen = set(states)
    for many in range(1, most + 1):
        further = {}
        for state in states.values():
            for deed in deeds_at(state):
                if allows(care, state, deed):
                    for kind in deed_at(book, copied(state), deed)[1]:
                        least.setdefault(kind, many)
            for _, _, moments, after in clean_steps(book, care, state):
                carried.update(moments)
                if frozen(after) not in seen:
                    seen.add(frozen(after))
                    further[frozen(after)] = after
        states = further
        if len(seen) > room:
            return least, carried, many
    return least, carried, most


def takes_own(deed, report, after):
    return deed[0] == "code" and deed[1] in report[2]


def lays(deed, report, after):
    return deed[0] == "bring" and after["n"] in after["in"]


def leads_to(wanted, book, care, state, room):
    """Return whether some deeds behind a state make a clean list with a wanted last deed; None if so many states
    were tried and it is still open.
    """
    states, seen = [state], {frozen(state)}
    while states:
        further = []
        for one in states:
            for deed, report, _, after in clean_steps(book, care, one):
                if wanted(deed, report, after):
                    return True
                if frozen(after) not in seen:
                    seen.add(frozen(after))
                    further.append(after)
        if len(seen) > room:
            return None
        states = further
    return False


def first_hopeless(wanted, book, care, most, room):
    """Try all clean lists of at most so many deeds; return the least number behind which no deeds lead to a wanted
    one, or None, and the number of deeds up to which all lists were tried. As hopeless counts, too, where so many
    states were tried in vain.
    """
    states, seen = [start()], {frozen(start())}
    for many in range(most + 1):
        further = []
        for state in states:
            if wanted is lays or state["in"]:
                if not leads_to(wanted, book, care, state, room):
                    return many, many
            for _, _, _, after in clean_steps(book, care, state):
                if frozen(after) not in seen:
                    seen.add(frozen(after))
                    further.append(after)
        if len(seen) > room:
            return None, many
        states = further
    return None, most


def first_apart(book, other, care, most, room):
    """Try all lists of at most so many deeds; return the least number with unlike reports, or None, and the number
    of deeds up to which all lists were tried.
    """
    pairs, seen = [(start(), start())], set()
    for many in range(1, most + 1):
        further = []
        for one, two in pairs:
            for deed in deeds_at(one):
                if allows(care, one, deed) and allows(care, two, deed):
                    after = copied(one), copied(two)
                    if deed_at(book, after[0], deed)[0] != deed_at(other, after[1], deed)[0]:
                        return many, many
                    key = frozen(after[0]), frozen(after[1])
                    if key not in seen:
                        seen.add(key)
                        further.append(after)
        if len(seen) > room:
            return None, many
        pairs = further
    return None, most
