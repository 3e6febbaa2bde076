"""Sets of kinds: which are rueless by themselves, and how the kinds are shared out to yards that never rue."""

from itertools import combinations

from rueless.errors import NoLetter, PaperFault, Refused
from rueless.plain import is_number_below, is_same, is_sequence, is_sign, is_tuple_of, lies_in
from rueless.strikes import is_verdict, verdict_paper
from rueless.trades import KINDS, cut_kinds
from rueless.twos import Table
from rueless.verdict import is_rueless

MOST_YARDS = 4


def _set_of(letters, value):
    """The set that any sequence or string of some of these letters is."""
    if not isinstance(value, (str, list, tuple)):
        raise NoLetter(value)
    for kind in value:
        if not is_sign(kind, letters):
            raise NoLetter(kind)
    return "".join([kind for kind in letters if kind in value])


def _sets_of(letters, sets):
    if not is_sequence(sets):
        raise NoLetter(sets)
    return [_set_of(letters, one) for one in sets]


def _all_sets(kinds):
    """All sets of some of the kinds, in order."""
    return ["".join(chosen) for many in range(len(kinds) + 1) for chosen in combinations(kinds, many)]


def _in_order(sets):
    return tuple(sorted(sets, key=lambda one: (len(one), one)))


def _lacking(kinds, sets):
    return [_set_of(kinds, [kind for kind in kinds if kind not in one]) for one in sets]


def complement_sets(kinds, sets):
    kinds = _set_of(KINDS, kinds)
    return tuple(_lacking(kinds, _sets_of(kinds, sets)))


def meeting_sets(kinds, sets):
    kinds = _set_of(KINDS, kinds)
    sets = _sets_of(kinds, sets)
    meeting = [one for one in _all_sets(kinds) if all([_have_common(one, other) for other in sets])]
    return tuple([one for one in meeting if not any([lies_in(other, one) for other in meeting if other != one])])


def _have_common(one, other):
    return any([kind in other for kind in one])


def is_safe(trade, kinds):
    return is_rueless(Table(cut_kinds(trade, kinds)))


def safe_sets(trade):
    safe = {}
    for kinds in _all_sets(trade.kinds):
        # What is rueful is so with more kinds, too.
        within = [one for one in _all_sets(kinds) if len(one) == len(kinds) - 1]
        if all([one in safe for one in within]) and is_safe(trade, kinds):
            safe[kinds] = True
    return tuple([one for one in safe if not any([lies_in(one, other) for other in safe if other != one])])


def rueful_sets(trade):
    # A set is rueful just if it lies in no safe one, so if it has a kind that this one lacks, for each of them.
    return meeting_sets(trade.kinds, complement_sets(trade.kinds, safe_sets(trade)))


def kind_dealings(kinds, most):
    kinds = _set_of(KINDS, kinds)
    if not is_number_below(most, MOST_YARDS + 1):
        raise Refused(most)
    dealings = [()]
    for kind in kinds:
        dealings = [way for dealing in dealings for way in _dealt(dealing, kind, most)]
    return tuple(dealings)


def _dealt(dealing, kind, most):
    """All ways in which one kind more is given to a yard, by the number of the yard."""
    ways = [dealing[:at] + (one + kind,) + dealing[at + 1:] for at, one in enumerate(dealing)]
    return ways + [dealing + (kind,)] if len(dealing) < most else ways


def _all_lie(dealing, safe):
    """Whether each set of a dealing lies in a safe one."""
    return all([any([lies_in(one, other) for other in safe]) for one in dealing])


def fewest_yards(trade):
    alone = [kind for kind in trade.kinds if not is_safe(trade, kind)]
    if alone:
        return (False, "".join(alone))
    safe = safe_sets(trade)
    dealings = [one for most in range(MOST_YARDS + 1) for one in kind_dealings(trade.kinds, most)]
    return (True, [one for one in dealings if _all_lie(one, safe)][0])


def barred_dealings(trade, most):
    dealings = kind_dealings(trade.kinds, most)
    rueful = rueful_sets(trade)
    within = [[one for one in rueful if _lies_in_one(one, dealing)] for dealing in dealings]
    if [] in within:
        return None
    return tuple([(dealing, sets[0]) for dealing, sets in zip(dealings, within)])


def _lies_in_one(kinds, dealing):
    return any([lies_in(kinds, one) for one in dealing])


def kinds_paper(trade):
    return ("kinds", _told(trade, safe_sets(trade)), _told(trade, rueful_sets(trade)))


def _told(trade, sets):
    """Each of the sets with the paper of its verdict."""
    return tuple([(one, verdict_paper(Table(cut_kinds(trade, one)))) for one in sets])


def yards_paper(trade):
    is_found, told = fewest_yards(trade)
    if not is_found:
        return ("no yards", told)
    return ("yards", told, barred_dealings(trade, len(told) - 1) if told else ())


def check_kinds(trade, value):
    if not is_tuple_of(value, 3) or not is_same(value[0], "kinds"):
        raise PaperFault(0)
    _, safe, rueful = value
    _need_sets(trade.kinds, safe)
    _need_sets(trade.kinds, rueful)
    told = [(one, "rueless") for one in safe] + [(one, "rueful") for one in rueful]
    for number, (one, word) in enumerate(told, 1):
        if not is_verdict(cut_kinds(trade, one[0]), word, one[1]):
            raise PaperFault(number)
    if not _fit(trade.kinds, [one for one, _ in safe], [one for one, _ in rueful]):
        raise PaperFault(len(told) + 1)


def _need_sets(kinds, value):
    """Raises PaperFault(0) for any value that is no tuple of pairs of a set, in order, and a thing."""
    if not isinstance(value, tuple) or not all([is_tuple_of(one, 2) for one in value]):
        raise PaperFault(0)
    sets = [one for one, _ in value]
    if not all([one in _all_sets(kinds) for one in sets]) or _in_order({one: True for one in sets}) != tuple(sets):
        raise PaperFault(0)


def _fit(kinds, safe, rueful):
    """Whether the rueful sets are the least ones beside the safe sets, and these the greatest ones."""
    lacking = _lacking(kinds, safe)
    return meeting_sets(kinds, lacking) == tuple(rueful) and meeting_sets(kinds, rueful) == _in_order(lacking)


def check_yards(trade, kinds, value):
    try:
        check_kinds(trade, kinds)
    except PaperFault:
        raise PaperFault(-1)
    safe, rueful = [[one for one, _ in told] for told in kinds[1:]]
    if is_tuple_of(value, 2) and is_same(value[0], "no yards"):
        alone = "".join([one for one in rueful if len(one) == 1])
        if not alone or not is_same(value[1], alone):
            raise PaperFault(0)
    elif is_tuple_of(value, 3) and is_same(value[0], "yards"):
        _, sets, barred = value
        if sets not in kind_dealings(trade.kinds, MOST_YARDS) or not _all_lie(sets, safe):
            raise PaperFault(0)
        _check_barred(kind_dealings(trade.kinds, len(sets) - 1) if sets else (), rueful, barred)
    else:
        raise PaperFault(0)


def _check_barred(dealings, rueful, value):
    """Raises PaperFault unless any value tells for each dealing a rueful set that lies in one of its sets."""
    if not isinstance(value, tuple):
        raise PaperFault(0)
    for number, dealing in enumerate(dealings, 1):
        if number > len(value) or not _is_barred(dealing, rueful, value[number - 1]):
            raise PaperFault(number)
    if len(value) > len(dealings):
        raise PaperFault(len(dealings) + 1)


def _is_barred(dealing, rueful, value):
    if not is_tuple_of(value, 2) or not is_same(value[0], dealing):
        return False
    return value[1] in rueful and _lies_in_one(value[1], dealing)
