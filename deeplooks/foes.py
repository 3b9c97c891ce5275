"""Foes: which parts may be bad from the start, by which rules more can be made bad, what is stuck."""

from deeplooks.errors import BadFoe, BadLot, BadText
from deeplooks.reading import behind_word, lines_in, number_in, numbers_text, set_in
from deeplooks.sets import common, inside, is_list, is_number, is_set, joined, meets, set_of, without
from deeplooks.systems import MOST_PARTS

MOST_RULES = 24
LINES = 4


class Foe:
    """What can make parts bad, and which of them cannot be mended."""

    def __init__(self, many, early, rules, *, stuck=()):
        if not is_number(many, 1, MOST_PARTS):
            raise BadFoe("many")
        if not is_set(early, many):
            raise BadFoe("early")
        if not _are_rules(rules, many):
            raise BadFoe("rules")
        if not is_set(stuck, many):
            raise BadFoe("stuck")
        self._many = many
        self.early = tuple(sorted(early))
        self.rules = _in_order([(tuple(sorted(premise)), part) for premise, part in rules])
        self.stuck = tuple(sorted(stuck))

    @property
    def many(self):
        """The number of parts."""
        return self._many

    @classmethod
    def of_lot(cls, levels):
        """The foe of a lot: level 1 is bad from the start at most, level 2 at any time."""
        if not is_list(levels) or len(levels) < 1 or len(levels) > MOST_PARTS:
            raise BadLot(-1)
        for part, level in enumerate(levels):
            if not is_number(level, 0, 2):
                raise BadLot(part)
        early = [part for part, level in enumerate(levels) if level > 0]
        rules = [((), part) for part, level in enumerate(levels) if level == 2]
        return cls(len(levels), early, rules)

    def less(self, parts):
        """The foe without these parts: not early, and in no rule."""
        gone = set_of(parts, self.many, "parts")
        rules = [rule for rule in self.rules if rule[1] not in gone and not meets(rule[0], gone)]
        return Foe(self.many, without(self.early, gone), rules, stuck=self.stuck)

    def free_parts(self):
        """The set of the early parts that can be made bad at any time."""
        return tuple([part for part in self.early if ((), part) in self.rules])

    def holds(self, other):
        """True if this foe is larger than the other one or the same."""
        if self.many != other.many:
            raise BadFoe("many")
        if not inside(other.early, self.early) or not inside(self.stuck, other.stuck):
            return False
        return inside(other.rules, self.rules)

    def __or__(self, other):
        if self.many != other.many:
            raise BadFoe("many")
        rules = _in_order([*self.rules, *other.rules])
        if len(rules) > MOST_RULES:
            raise BadFoe("rules")
        return Foe(self.many, joined(self.early, other.early), rules, stuck=common(self.stuck, other.stuck))

    def __eq__(self, other):
        if not isinstance(other, Foe):
            return False
        if self.many != other.many or self.early != other.early:
            return False
        return self.rules == other.rules and self.stuck == other.stuck


def foe_text(foe):
    """The text of the foe: parts, early, rules and stuck, a line each."""
    lines = [
        "parts " + str(foe.many),
        _line_text("early", numbers_text(foe.early)),
        _line_text("rules", " / ".join([_rule_text(rule) for rule in foe.rules])),
        _line_text("stuck", numbers_text(foe.stuck)),
    ]
    return "\n".join(lines)


def foe_from(text):
    """The foe that has this text; BadText(line) tells the first line that is wrong."""
    lines = lines_in(text, LINES)
    many = _many_in(lines[0])
    if many is None:
        raise BadText(0)
    early = _set_line_in(lines[1], "early", many)
    if early is None:
        raise BadText(1)
    rules = _rules_in(lines[2], many)
    if rules is None:
        raise BadText(2)
    stuck = _set_line_in(lines[3], "stuck", many)
    if stuck is None:
        raise BadText(3)
    if len(lines) > LINES:
        raise BadText(LINES)
    return Foe(many, early, rules, stuck=stuck)


def _are_rules(value, many):
    """True if value is a list or tuple of at most 24 rules over so many parts."""
    if not is_list(value) or len(value) > MOST_RULES:
        return False
    return all([is_rule(rule, many) for rule in value])


def is_rule(value, many):
    """True if value is a list or tuple of a set and a part, over so many parts."""
    if not is_list(value) or len(value) != 2:
        return False
    return is_set(value[0], many) and is_number(value[1], 0, many - 1)


def _in_order(rules):
    """The different rules as a tuple: by part, then by premise, short first."""
    return tuple(sorted(sorted(set(rules)), key=_rule_key))


def _rule_key(rule):
    """What tells the place of a rule in the order; equal keys leave the premises as sorted."""
    return (rule[1], len(rule[0]))


def _line_text(word, told):
    """The line of the word, which stands alone if nothing is told."""
    if told == "":
        return word
    return word + " " + told


def _rule_text(rule):
    """The text of one rule."""
    premise, part = rule
    if premise == ():
        return "> " + str(part)
    return numbers_text(premise) + " > " + str(part)


def _many_in(line):
    """The number of parts that the line tells, None if it is wrong."""
    told = behind_word(line, "parts")
    many = None if told is None else number_in(told, MOST_PARTS + 1)
    return None if many == 0 else many


def _set_line_in(line, word, many):
    """The set that the line with this word tells, None if it is wrong."""
    if line == word:
        return ()
    told = behind_word(line, word)
    return None if told is None else set_in(told, many)


def _rules_in(line, many):
    """The rules that the line tells, None if it is wrong."""
    if line == "rules":
        return ()
    told = behind_word(line, "rules")
    if told is None:
        return None
    rules = [_rule_in(piece, many) for piece in told.split(" / ")]
    if None in rules or len(rules) > MOST_RULES or tuple(rules) != _in_order(rules):
        return None
    return rules


def _rule_in(text, many):
    """The rule that has this text, None if there is none."""
    if text.startswith("> "):
        premise = ()
        told = text[2:]
    else:
        left, _, told = text.partition(" > ")
        premise = set_in(left, many)
    part = number_in(told, many)
    if premise is None or part is None:
        return None
    return (premise, part)
