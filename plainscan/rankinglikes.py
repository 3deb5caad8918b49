"""Which ranks order alike for all documents and questions, what parts the others, and which ranks show a trace."""

from math import gcd

from plainscan.errors import InvalidStep, Trace
from plainscan.ranking import at_or_last, need_rank
from plainscan.values import is_count, is_from_one, is_one_of, is_tuple_of, need_number

NEVER = (0, 0)
BONUS = ("bonus",)
MOST_STEPS = 6


def ranked_alike(rank, other):
    """Whether both ranks put all found documents in the same order, for all documents and questions."""
    factors = multipliers(rank, other)
    counted_alike = rank.counted == other.counted or (rank.is_blind() and other.is_blind())
    return factors is not None and rank.ties == other.ties and counted_alike


def multipliers(rank, other):
    """The least pair (m, n) such that m times what the first rank gives is n times what the other one gives.

    None if there is none.
    """
    need_rank(rank)
    need_rank(other)
    gains = [(value_of(rank, step), value_of(other, step)) for step in gains_of(rank, other)]
    told = [gain for gain in gains if gain != (0, 0)]
    if not told:
        return (1, 1)
    first, second = told[0]
    if first == 0 or second == 0 or any([one * second != two * first for one, two in told]):
        return None
    common = gcd(first, second)
    return (second // common, first // common)


def classes_of(rank, other):
    """The classes that are enough for both ranks: those behind them are worth what the last one is.

    The second one is always among them, since steps of the first one are bound to begin or to end with nothing.
    """
    return list(range(1, max(2, len(rank.rare), len(other.rare)) + 1))


def times_of(rank, other):
    """The pairs of numbers of times that are enough for both ranks: those beyond are worth what the last ones are."""
    heads = max(len(rank.heads), len(other.heads))
    bodies = max(len(rank.bodies), len(other.bodies))
    return [(head, body) for head in range(heads) for body in range(bodies)]


def gains_of(rank, other):
    """Steps from nothing: each one's value is all that a term or a bonus is worth."""
    words = [("word", number, times, NEVER) for number in classes_of(rank, other) for times in times_of(rank, other)]
    return [*words, BONUS]


def steps_of(rank, other):
    """Steps that have all the values that steps can have by both ranks, forwards or backwards."""
    times = times_of(rank, other)
    changes = [("word", number, one, two) for number in classes_of(rank, other)[1:] for one in times for two in times]
    return [*gains_of(rank, other), *changes]


def is_times(value):
    """Whether a value is a pair of numbers of times, in a head and in a body."""
    return is_tuple_of(value, 2, 2) and is_count(value[0]) and is_count(value[1])


def is_step(value):
    """Whether a value is a step."""
    if is_tuple_of(value, 1, 1):
        return is_one_of(value[0], BONUS)
    if not is_tuple_of(value, 4, 4):
        return False
    kind, number, stood, other = value
    if not is_one_of(kind, ("word",)) or not is_from_one(number):
        return False
    # Of a term of the first class one document at most can have some.
    return is_times(stood) and is_times(other) and (number > 1 or NEVER in (stood, other))


def step_value(rank, step):
    """The value of a step by a rank."""
    need_rank(rank)
    if not is_step(step):
        raise InvalidStep(step)
    return value_of(rank, step)


def value_of(rank, step):
    """The same, of what surely is a rank and a step."""
    if step == BONUS:
        return rank.bonus
    _, number, stood, other = step
    return at_or_last(rank.rare, number - 1) * (points_of(rank, stood) - points_of(rank, other))


def points_of(rank, times):
    """The points for a pair of numbers of times, whatever their size."""
    return at_or_last(rank.heads, times[0]) + at_or_last(rank.bodies, times[1])


def is_parting(rank, other, value):
    """Whether a value is a parting of two ranks."""
    need_rank(rank)
    need_rank(other)
    if type(value) is not tuple or not all([is_taken(pair) for pair in value]):
        return False
    steps = [step for step, _ in value]
    if len(set(steps)) < len(steps):
        return False
    first = sum([times * value_of(rank, step) for step, times in value])
    second = sum([times * value_of(other, step) for step, times in value])
    return sign_of(first) != sign_of(second)


def is_taken(value):
    """Whether a value is a pair (STEP, TIMES)."""
    return is_tuple_of(value, 2, 2) and is_step(value[0]) and type(value[1]) is int and value[1] != 0


def sign_of(number):
    """1 above 0, -1 below it, and 0."""
    if number == 0:
        return 0
    return 1 if number > 0 else -1


def parting(rank, other):
    """A parting of two ranks with as few steps as can be, None if there is none."""
    if multipliers(rank, other) is not None:
        return None
    leaps = leaps_of(rank, other)
    layers = [{0: 0}]
    while parted_sum(layers[-1]) is None:
        layers.append(layer_behind(layers[-1], leaps))
    return steps_back(layers, leaps)


def parting_number(rank, other, most):
    """The least parting number of two ranks, None if it is above a number or there is no parting."""
    need_rank(rank)
    need_rank(other)
    need_number(most, 1, MOST_STEPS)
    leaps = leaps_of(rank, other)
    layer = {0: 0}
    for number in range(1, most + 1):
        layer = layer_behind(layer, leaps)
        if parted_sum(layer) is not None:
            return number
    return None


def leaps_of(rank, other):
    """For each value by the first rank of a step, taken once forwards or backwards, (LEAST, STEP, TIMES).

    LEAST is the least value that such a step has by the other rank.
    """
    leaps = {}
    for step in steps_of(rank, other):
        first, second = value_of(rank, step), value_of(other, step)
        for times in (1, -1):
            if times * first not in leaps or times * second < leaps[times * first][0]:
                leaps[times * first] = (times * second, step, times)
    return leaps


def layer_behind(layer, leaps):
    """For each sum by the first rank of one step more the least sum by the other one.

    The greatest sums are the opposites of the least ones for the opposite sums. Sums beyond the greatest value of a
    step are left out: if no fewer steps part, each step of a parting has the sign against that of all the others, so
    their sum is within, and they can be put in an order in which they stay within.
    """
    farthest = max(list(leaps))
    behind = {}
    for total, least in layer.items():
        for leap, (worth, _, _) in leaps.items():
            there = total + leap
            if -farthest <= there <= farthest and (there not in behind or least + worth < behind[there]):
                behind[there] = least + worth
    return behind


def parted_sum(layer):
    """A sum by the first rank with one by the other one that has an unlike sign, None if there is none."""
    for total, least in layer.items():
        if (total > 0 and least <= 0) or (total == 0 and least < 0):
            return total
    return None


def steps_back(layers, leaps):
    """The steps that lead through all layers to a sum that parts in the last one, with their numbers of times."""
    total = parted_sum(layers[-1])
    taken = {}
    for at in range(len(layers) - 1, 0, -1):
        leap = leap_back(layers[at - 1], leaps, total, layers[at][total])
        _, step, times = leaps[leap]
        taken[step] = taken.get(step, 0) + times
        total = total - leap
    return tuple(taken.items())


def leap_back(layer, leaps, total, least):
    """The value of the step that leads from a layer to a sum with its least sum by the other rank."""
    for leap, (worth, _, _) in leaps.items():
        if total - leap in layer and layer[total - leap] + worth == least:
            return leap
    return None


def shows_trace(rank):
    """Whether documents that are not seen can change the scores or the order of those that are."""
    need_rank(rank)
    return rank.counted == "all" and not rank.is_blind()


def need_traceless(rank):
    """An error for a rank that shows a trace."""
    if shows_trace(rank):
        raise Trace()


def trace(rank):
    """A triple (DOCUMENTS, FURTHER, QUESTION) by which a rank shows a trace, None if it shows none."""
    if not shows_trace(rank):
        return None
    head = ("a",) * rank.heads.index(max(rank.heads))
    body = ("a",) * rank.bodies.index(max(rank.bodies))
    # Alone the document has a term of the first class; with so many others it has one of another class.
    place = [place for place, factor in enumerate(rank.rare) if factor != rank.rare[0]][0]
    further = [(key, 0, ("a",), ()) for key in range(2, (1 << place) + 1)]
    return (((1, 0, head, body),), tuple(further), ("word", "any", "a"))
