"""Two errors in one row: the rows, and the bound that they keep or the tops that break it."""

from meanbits.checks import are_numbers, is_number

FIRST = (0, 0)


def step(below, state, top):
    """A pair: the bit of a step, and the state behind it."""
    one, other = state
    value = top + 2 * one - other
    bit = 1 if 2 * value >= below else 0
    return (bit, (value - below * bit, one))


def two_made(wave):
    """The row that the wave makes by two errors."""
    below, tops = wave
    state = FIRST
    bits = []
    for top in tops:
        bit, state = step(below, state, top)
        bits.append(str(bit))
    return "".join(bits)


def two_states(wave):
    """The list of the first state and those behind each step."""
    below, tops = wave
    states = [FIRST]
    for top in tops:
        states.append(step(below, states[-1], top)[1])
    return states


def is_within(state, limit):
    """Whether both errors are from -limit to limit."""
    return -limit <= min(state) and max(state) <= limit


def tops_to(state, came):
    """The tops that lead from the first state to this one, by the step that each state came by."""
    tops = []
    while state != FIRST:
        state, top = came[state]
        tops.append(top)
    return tops[::-1]


def closed(below, low, high, limit):
    """("closed", all states that come) where they stay within the limit, else ("beyond", fewest tops)."""
    came = {FIRST: None}
    waiting = [FIRST]
    # States are met in the order of their fewest tops, so the first one beyond has the fewest.
    while waiting:
        later = []
        for state in waiting:
            for top in range(low, high + 1):
                reached = step(below, state, top)[1]
                if not is_within(reached, limit):
                    return ("beyond", tops_to(state, came) + [top])
                if reached not in came:
                    came[reached] = (state, top)
                    later.append(reached)
        waiting = later
    return ("closed", sorted(came))


def are_closed(below, low, high, limit, states):
    """Whether they are unlike states within the limit, the first one among them, that no top leads out of."""
    if not all(are_numbers(state, 2) and is_within(state, limit) for state in states):
        return False
    known = set(states)
    if len(known) < len(states) or FIRST not in known:
        return False
    for state in states:
        for top in range(low, high + 1):
            if step(below, state, top)[1] not in known:
                return False
    return True


def lead_beyond(below, low, high, limit, tops):
    """Whether they are tops behind the last of which, and not ahead, an error is beyond the limit."""
    if not all(is_number(top) and low <= top <= high for top in tops):
        return False
    state = FIRST
    for place, top in enumerate(tops):
        state = step(below, state, top)[1]
        if not is_within(state, limit):
            return place == len(tops) - 1
    return False


def shows_closed(below, low, high, limit, thing):
    """Whether the thing shows that the states stay within the limit, or that they do not."""
    if not isinstance(thing, tuple) or len(thing) != 2 or not isinstance(thing[1], list):
        return False
    word, shown = thing
    if word == "closed":
        return are_closed(below, low, high, limit, shown)
    if word == "beyond":
        return lead_beyond(below, low, high, limit, shown)
    return False


def two_bound(states):
    """The greatest excess, either way, of a stretch between these states."""
    offs = [other - one for one, other in states]
    return max(offs) - min(offs)
