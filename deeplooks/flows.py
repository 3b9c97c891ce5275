"""How evidence goes through a phrase: where it stands in what is written, and by which steps.

A flow is a tuple (path, steps, signs): the path at which the evidence stands in what the phrase
writes; the steps by which it went, each (event, place, signs put round it ahead of the step); and
all the signs that the phrase put round it. A sign is a pair (sign number, place).
"""

from deeplooks.checks import JUDGE, event_many
from deeplooks.phrases import Ask, Look, Sign, Then, sign_many


def copy_flows(phrase):
    """A list: for each look the flows of its copies, in reading order, for the whole phrase."""
    _, looks = _flows(phrase, JUDGE, 0, 0)
    # "left" is less than "right" and a path less than a longer one that begins so.
    return [sorted(flows, key=_flow_path) for flows in looks]


def _flow_path(flow):
    """The path of the flow."""
    return flow[0]


def _flows(phrase, place, event, sign):
    """The flows of what is in hand, and a list of those of each look's word.

    The place is where the phrase stands; event and sign are its first event's and sign's numbers.
    """
    if isinstance(phrase, Look):
        return ([(("in",), (), ())], [[((), ((event, place, ()),), ())]])
    if isinstance(phrase, Sign):
        return ([(("in",), (), ((sign, place),))], [])
    if isinstance(phrase, Ask):
        return _ask_flows(phrase, place, event, sign)
    left, right = phrase.parts_of()
    left_hand, left_looks = _flows(left, place, event, sign)
    right_hand, right_looks = _flows(right, place, event + event_many(left), sign + sign_many(left))
    if isinstance(phrase, Then):
        looks = [_followed(flows, right_hand) for flows in left_looks]
        return (_followed(left_hand, right_hand), looks + right_looks)
    hand = _put_under("left", left_hand) if phrase.keep_left else []
    if phrase.keep_right:
        hand = hand + _put_under("right", right_hand)
    looks = [_put_under("left", flows) for flows in left_looks]
    return (hand, looks + [_put_under("right", flows) for flows in right_looks])


def _ask_flows(ask, place, event, sign):
    """The flows through an ask: what is in hand goes by the ask, all comes back by the answer."""
    hand, looks = _flows(ask.asked, ask.place, event + 1, sign)
    answer = event + 1 + event_many(ask.asked)
    sent = ((), ((event, place, ()),), ())
    back = [_answered(flow, answer, ask.place) for flow in _followed([sent], hand)]
    return (back, [[_answered(flow, answer, ask.place) for flow in flows] for flows in looks])


def _answered(flow, answer, place):
    """The flow with the step of the answer behind it."""
    path, steps, signs = flow
    return (path, (*steps, (answer, place, signs)), signs)


def _followed(flows, further):
    """The flows, each gone on with each of those that take over what is in hand."""
    found = []
    for path, steps, signs in flows:
        for next_path, next_steps, next_signs in further:
            later = [(event, place, (*signs, *put)) for event, place, put in next_steps]
            found.append(((*next_path, *path), (*steps, *later), (*signs, *next_signs)))
    return found


def _put_under(step, flows):
    """The flows with the step inward ahead of their paths."""
    return [((step, *path), steps, signs) for path, steps, signs in flows]
