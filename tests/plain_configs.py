"""Point 21 read plainly: which configurations there are, and where a sign leads them."""

from tests.helpers import marked_sign, plain_sign


def plain_configs(card, machine, board):
    """All configurations that the document has for a board."""
    found = []
    for q in range(len(machine.arrows)):
        found += [(0, q, 0, 0, 0), (2, q, 0, 0, 0)]
        for k, (before, _) in enumerate(card.pairs):
            m = len(before)
            found += [(1, q, k, 0, i) for i in range(1, m)]
            if board == "ring":
                for s in range(1, m):
                    found += [(3, q, k, s, i) for i in range(m - s)]
                    found += [(4, q, k, s, 0)]
                    found += [(5, q, k, s, i) for i in range(1, s + 1)]
    return sorted(found)


def plain_starts(card, board):
    if board == "row":
        return [(0, 0, 0, 0, 0)]
    return sorted({(0, 0, 0, 0, 0)} | {(3, 0, k, s, 0) for k, (before, _) in enumerate(card.pairs)
                                       for s in range(1, len(before))})


def plain_onward(card, machine, config, x):
    """The set of the configurations that one configuration leads to when the sign x is read."""
    stage, q, k, s, i = config
    p = plain_sign(x)

    def after(y):
        c = y if x == p else marked_sign(y)
        return machine.arrows[q][machine.signs.index(c)]

    straight = machine.arrows[q][machine.signs.index(x)]
    if stage == 0:
        begun = {(1, after(w[0]), n, 0, 1) for n, (b, w) in enumerate(card.pairs) if b[0] == p}
        return begun | {(0, straight, 0, 0, 0)}
    if stage == 2:
        return {(2, straight, 0, 0, 0)}
    before, window = card.pairs[k]
    m = len(before)
    if stage == 1 and before[i] == p:
        return {(2, after(window[i]), 0, 0, 0)} if i + 1 == m else {(1, after(window[i]), k, 0, i + 1)}
    if stage == 3 and before[s + i] == p:
        q2 = after(window[s + i])
        return {(4, q2, k, s, 0)} if i + 1 == m - s else {(3, q2, k, s, i + 1)}
    if stage == 4:
        begun = {(5, after(window[0]), k, s, 1)} if before[0] == p else set()
        return begun | {(4, straight, k, s, 0)}
    if stage == 5 and i < s and before[i] == p:
        return {(5, after(window[i]), k, s, i + 1)}
    return set()


def plain_good(machine, config):
    stage, q, _, s, i = config
    return q in machine.finals and (stage == 2 or stage == 5 and i == s)


def plain_read(card, machine, board, row):
    """The set of all configurations after a row."""
    configs = set(plain_starts(card, board))
    for x in row:
        configs = {to for config in configs for to in plain_onward(card, machine, config, x)}
    return configs
