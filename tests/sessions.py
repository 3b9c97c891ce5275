"""Sessions led by drawn deeds: a machine and the model of slowmachine go side by side."""

from deeplooks.errors import BadStep
from deeplooks.evidence import Empty, Nonce, Signed
from deeplooks.evidencetexts import evidence_from, evidence_text
from deeplooks.letters import Letter
from deeplooks.machines import Machine
from tests.fitting import fitting_phrases
from tests.helpers import FOUR, NO_INTEGERS, ODD
from tests.slowmachine import Model
from tests.test_evidence import some_evidence

OLD = [Letter(6, 0, False, Nonce(6)), Letter(4, 0, True, Nonce(4)), Letter(6, 0, False, Nonce(6))]


def small_phrases(seed, count, events=8):
    """So many different phrases that fit FOUR, with their letters no longer than a few hundred signs."""
    return list(fitting_phrases(seed, count, events))


def told_letter(letter):
    """The letter of the machine as the model tells it."""
    return (letter.ask, "back" if letter.back else "to", evidence_text(letter.evidence))


def as_letter(nonce, letter):
    """The letter of the model as the machine tells it."""
    ask, way, text = letter
    return Letter(nonce, ask, way == "back", evidence_from(text))


class Session:
    """A machine and its model; step() does a deed that is drawn on both."""

    def __init__(self, case, chance, phrase, forging=True, nonce=5):
        self.case = case
        self.chance = chance
        self.forging = forging
        self.nonce = nonce
        self.machine = Machine(FOUR, phrase, nonce, old=OLD)
        self.model = Model(FOUR, phrase, nonce)
        self.words = {}
        self.steps = 0

    def step(self):
        """One deed, of any kind, on both."""
        self.steps += 1
        kinds = [self.do, self.do, self.do, self.send, self.send, self.bring, self.bring, self.bring,
                 self.fall, self.cut_do, self.cut_bring, self.refused]
        self.chance.choice(kinds)()

    def drawn_event(self):
        """An event that is ready, None if there is none."""
        ready = self.model.ready()
        return self.chance.choice(ready) if ready else None

    def drawn_evidence(self):
        """Evidence that a bad manager may have recorded, None for the honest one."""
        if not self.forging or self.chance.random() < 0.6:
            return None
        return self.chance.choice([Empty(), Nonce(7), Signed(99, 3, Nonce(6)), some_evidence(self.chance, 3)])

    def is_look(self, event):
        """True if the event is a look."""
        return self.model.shape.events[event][0] == "look"

    def do(self):
        """An event that is ready, with a drawn word or drawn evidence."""
        event = self.drawn_event()
        if event is None:
            return
        if self.is_look(event):
            word = self.chance.choice([True, False, "yes", 0, None, 1])
            self.case.assertIs(self.machine.do(event, word=word), True)
            self.model.do(event, "+" if word else "-")
            self.words[self.look_number(event)] = bool(word)
            return
        sent = self.drawn_evidence()
        self.case.assertIs(self.machine.do(event, word=False, sent=sent), True)
        self.model.do(event, None if sent is None else evidence_text(sent))

    def look_number(self, event):
        """The look number of the look with this event."""
        return sum(self.is_look(e) for e in range(event))

    def send(self):
        """A letter that may be sent, perhaps one that was sent before."""
        letters = self.model.letters()
        if letters:
            letter = self.chance.choice(letters)
            self.case.assertIsNone(self.machine.send(as_letter(self.nonce, letter)))
            if letter not in self.model.bag:
                self.model.bag.append(letter)

    def bring(self, cut=None):
        """A letter of the bag, one of an old session too."""
        letters = self.model.bag + OLD
        letter = self.chance.choice(letters)
        if isinstance(letter, Letter):
            # Nobody waits for it, so the cut is not looked at.
            cut = self.chance.choice([None, -1, True, "x"])
            self.case.assertIs(self.machine.bring(letter, cut=cut), False)
            return
        waited = self.model.waits_for(letter)
        told = self.machine.bring(as_letter(self.nonce, letter), cut=cut if waited else ODD)
        self.case.assertIs(told, waited and cut is None)
        if told:
            self.model.bring(letter)

    def cut_bring(self):
        """A letter whose record is cut."""
        self.bring(cut=self.chance.choice([0, 1, 4]))

    def cut_do(self):
        """An event whose record is cut, by nothing or by all signs but one too."""
        event = self.drawn_event()
        if event is None:
            return
        kind, number, text = self.model.entry(event)
        longest = len(f"{kind} {number} {text}\n") - 1
        cut = self.chance.choice([0, 1, longest, self.chance.randrange(longest + 1)])
        self.case.assertIs(self.machine.do(event, cut=cut), False)
        self.case.raises(BadStep, "cut", self.machine.do, event, cut=longest + 1)
        self.case.raises(BadStep, "cut", self.machine.do, event, cut=self.chance.choice([-1, True, "0", ODD]))

    def fall(self):
        """A place that falls."""
        self.case.assertIsNone(self.machine.fall(self.chance.randrange(-1, 4)))

    def refused(self):
        """Calls that raise errors."""
        machine, ready = self.machine, self.model.ready()
        wrong = [e for e in range(-1, len(self.model.shape.events) + 2) if e not in ready]
        for event in wrong + [self.chance.choice(NO_INTEGERS)]:
            self.case.raises(BadStep, "event", machine.do, event, sent=ODD, cut=-1)
        for event in ready:
            sent = Empty() if self.is_look(event) else self.chance.choice([True, "#5", ODD, 0])
            self.case.raises(BadStep, "sent", machine.do, event, sent=sent, cut=-1)
        letters = [as_letter(self.nonce, letter) for letter in self.model.letters()]
        for letter in [None, ODD, "5 0 to #5", OLD[0], Letter(5, 0, False, Nonce(999))]:
            if letter not in letters:
                self.case.raises(BadStep, "letter", machine.send, letter)
        for letter in [None, ODD, Letter(5, 0, False, Nonce(999)), Letter(3, 0, True, Nonce(4))]:
            if letter not in machine.bag():
                self.case.raises(BadStep, "letter", machine.bring, letter, cut=-1)

    def check(self):
        """All that the machine tells is what the model tells."""
        case, machine, model = self.case, self.machine, self.model
        for place in range(-1, 4):
            case.assertEqual(machine.log_of(place), model.text(place))
        case.assertEqual(machine.ready(), model.ready())
        case.assertEqual(machine.recorded(), tuple(model.done))
        case.assertEqual(machine.words(), self.words)
        case.assertEqual([told_letter(letter) for letter in machine.letters()], model.letters())
        case.assertEqual(machine.bag()[:2], (OLD[0], OLD[1]))
        case.assertEqual([told_letter(letter) for letter in machine.bag()[2:]], model.bag)
        case.assertEqual(machine.missing, model.missing())
        answer = machine.answer()
        case.assertEqual(None if answer is None else evidence_text(answer), model.answer())
        case.assertEqual(answer is not None, model.missing() == 0)
        for letter in model.letters():
            case.assertIs(machine.waits_for(as_letter(self.nonce, letter)), model.waits_for(letter))

    def ended(self):
        """True if there is an answer."""
        return self.machine.answer() is not None
