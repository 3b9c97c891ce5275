"""A desk: a system, a foe, a phrase, a nonce and wanted aims, with changes that can be undone."""

from deeplooks.aims import aim_of, check_parts
from deeplooks.checks import check_phrase, looks_of
from deeplooks.errors import BadBook, BadFoe, BadPhrase
from deeplooks.foes import Foe, foe_from, foe_text, is_rule
from deeplooks.leavings import signed_at
from deeplooks.logs import check_session
from deeplooks.mending import mend_told
from deeplooks.needed import fewest_signs
from deeplooks.openness import is_open, open_way, peels_of
from deeplooks.phrases import Ask, Look, Then
from deeplooks.phrasetexts import phrase_from, phrase_text
from deeplooks.readers import taken_way
from deeplooks.sets import check_number, is_list
from deeplooks.systemtexts import system_from, system_text

TOLD_THINGS = 5


class Page:
    """What a desk keeps at one moment and can change; a page itself is never changed."""

    def __init__(self, foe, phrase, wanted):
        self.foe = foe
        self.phrase = phrase
        self.wanted = wanted


class Desk:
    """Keeps a system, a foe, a phrase, a nonce and wanted aims, and answers for them."""

    def __init__(self, system, foe, phrase, nonce):
        check_phrase(system, phrase)
        check_parts(system, foe)
        check_session(system, phrase, nonce)
        self.system = system
        self.nonce = nonce
        self.page = Page(foe, phrase, ())
        self.earlier = ()
        self.later = ()

    @classmethod
    def from_told(cls, told):
        """A new desk with the five things that were told, of which nothing can be undone."""
        if not is_list(told) or len(told) != TOLD_THINGS or not is_list(told[4]):
            raise BadBook("told")
        system = system_from(told[0])
        foe = foe_from(told[1])
        desk = cls(system, foe, phrase_from(told[2]), told[3])
        for aim in told[4]:
            desk.want(aim)
        desk.earlier = ()
        return desk

    @property
    def told(self):
        """A tuple of the texts of the system, the foe and the phrase, the nonce, and the wanted aims."""
        page = self.page
        return (system_text(self.system), foe_text(page.foe), phrase_text(page.phrase), self.nonce, page.wanted)

    def aims(self):
        """A tuple of the wanted aims, as they were put in."""
        return self.page.wanted

    def set_foe(self, foe):
        """Take another foe."""
        check_parts(self.system, foe)
        self._turn(Page(foe, self.page.phrase, self.page.wanted))

    def set_phrase(self, phrase):
        """Take another phrase, of which all wanted aims are aims too."""
        check_phrase(self.system, phrase)
        if not all([_is_aim(phrase, aim) for aim in self.page.wanted]):
            raise BadBook("aim")
        self._turn(Page(self.page.foe, phrase, self.page.wanted))

    def want(self, aim):
        """Put the aim behind the wanted ones."""
        wanted = aim_of(self.system, self.page.phrase, aim)
        if wanted in self.page.wanted:
            raise BadBook("aim")
        self._turn(Page(self.page.foe, self.page.phrase, (*self.page.wanted, wanted)))

    def drop(self, aim):
        """Take the wanted aim away."""
        dropped = aim_of(self.system, self.page.phrase, aim)
        if dropped not in self.page.wanted:
            raise BadBook("aim")
        left = tuple([held for held in self.page.wanted if held != dropped])
        self._turn(Page(self.page.foe, self.page.phrase, left))

    def put_out(self, part):
        """Take the part out of the foe."""
        check_number(part, 0, self.system.many - 1, "part")
        self.set_foe(self.page.foe.less((part,)))

    def add_rule(self, premise, part):
        """Give the foe one more rule."""
        foe = self.page.foe
        if not is_rule((premise, part), foe.many):
            raise BadFoe("rules")
        if (tuple(sorted(premise)), part) in foe.rules:
            raise BadBook("rule")
        # With more rules than a foe may have this raises BadFoe.
        self.set_foe(Foe(foe.many, foe.early, [*foe.rules, (premise, part)], stuck=foe.stuck))

    def add_look(self, measurer, target):
        """Put a look behind the phrase, asked at the home of its measurer."""
        look = Look(measurer, target)
        if measurer >= self.system.many or target >= self.system.many:
            raise BadPhrase("part")
        self.set_phrase(Then(self.page.phrase, Ask(self.system.homes[measurer], look)))

    def sign_all(self):
        """Sign the phrase at the fewest spots that are enough."""
        phrase = self.page.phrase
        self.set_phrase(signed_at(self.system, phrase, fewest_signs(self.system, phrase)))

    def undo(self):
        """Take the last change back that is not undone."""
        if not self.earlier:
            raise BadBook("undo")
        self.later = (*self.later, self.page)
        self.page = self.earlier[-1]
        self.earlier = self.earlier[:-1]

    def again(self):
        """Do the change again that was undone last."""
        if not self.later:
            raise BadBook("again")
        self.earlier = (*self.earlier, self.page)
        self.page = self.later[-1]
        self.later = self.later[:-1]

    def opens(self, aim):
        """True if the phrase is open for the aim against the foe."""
        return is_open(self.system, self.page.foe, self.page.phrase, aim)

    def taken(self, aim):
        """True if the judge can be led to take the evidence although the aim is reached."""
        return taken_way(self.system, self.page.foe, self.page.phrase, aim) is not None

    def paper(self, aim):
        """The row and the run by which the phrase is open for the aim, else the peel of each look row."""
        way = open_way(self.system, self.page.foe, self.page.phrase, aim)
        return peels_of(self.system, self.page.foe, self.page.phrase, aim) if way is None else way

    def mend(self, aim):
        """What could mend the phrase for the aim."""
        return mend_told(self.system, self.page.foe, self.page.phrase, aim)

    def _turn(self, page):
        """Go on to another page: one change."""
        self.earlier = (*self.earlier, self.page)
        self.later = ()
        self.page = page


def _is_aim(phrase, aim):
    """True if an aim of another phrase is one of this phrase too."""
    target, number = aim
    looks = looks_of(phrase)
    return number is None or number < len(looks) and looks[number].target == target
