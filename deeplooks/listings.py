"""What a desk holds, line by line."""

from deeplooks.phrases import ask_many, look_many


def line_of(aim):
    """The text of the aim."""
    target, number = aim
    place = "the end" if number is None else "look " + str(number)
    return str(target) + " at " + place


def listing(desk):
    """A list of texts: the sizes, and for each wanted aim if it is open and if it is taken."""
    system = desk.system
    phrase = desk.page.phrase
    sizes = f"parts {system.many}, places {system.places}, looks {look_many(phrase)}, asks {ask_many(phrase)}"
    return [sizes] + [_aim_line(desk, aim) for aim in desk.aims()]


def _aim_line(desk, aim):
    """The line of a wanted aim."""
    opened = "open" if desk.opens(aim) else "shut"
    taken = "taken" if desk.taken(aim) else "refused"
    return "aim " + line_of(aim) + ": " + opened + ", " + taken
