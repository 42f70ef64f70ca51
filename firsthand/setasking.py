"""Questions about a set of texts."""


def least_ways(form):
    """Return for each later state of a least form the state and the letter's index before it on the least way.

    The states are numbered in the order of the least texts that lead to them,
    so the first state that has a move to another one lies on the least way.
    """
    ways = {}
    for state, row in enumerate(form):
        for index, move in enumerate(row[1]):
            if move is not None and move != 0 and move not in ways:
                ways[move] = (state, index)
    return ways


def least_text(texts):
    """Return the least text, or None for the empty set."""
    ways = least_ways(texts.form)
    for state, row in enumerate(texts.form):
        if row[0]:
            letters = []
            here = state
            while here != 0:
                here, index = ways[here]
                letters.append(texts.alphabet[index])
            return "".join(reversed(letters))
    return None


def member_count(texts, length):
    """Return the number of texts with exactly this many letters."""
    if texts.is_empty:
        return 0
    counts = [1 if row[0] else 0 for row in texts.form]
    for _ in range(length):
        counts = [sum([counts[move] for move in row[1] if move is not None]) for row in texts.form]
    return counts[0]


def steady_order(form):
    """Return the states so that all moves lead forward, or None if there is a ring."""
    waiting = [0 for row in form]
    for row in form:
        for move in row[1]:
            if move is not None:
                waiting[move] = waiting[move] + 1
    order = []
    ready = [state for state in range(len(form)) if waiting[state] == 0]
    while ready:
        state = ready.pop()
        order.append(state)
        for move in form[state][1]:
            if move is not None:
                waiting[move] = waiting[move] - 1
                if waiting[move] == 0:
                    ready.append(move)
    return order if len(order) == len(form) else None


def total_count(texts):
    """Return the number of all texts, or None if there are infinitely many."""
    if texts.is_empty:
        return 0
    order = steady_order(texts.form)
    if order is None:
        return None
    counts = {}
    for state in reversed(order):
        stops, moves = texts.form[state]
        counts[state] = sum([counts[move] for move in moves if move is not None]) + (1 if stops else 0)
    return counts[0]


def one_letter_before(form, layer):
    """Return a dict of the states from which one letter leads to a state of the layer."""
    found = {}
    for state, row in enumerate(form):
        for move in row[1]:
            if move in layer:
                found[state] = True
    return found


def members(texts, *, longest):
    """Yield all texts with at most `longest` letters in ascending order."""
    form = texts.form
    layers = []
    for length in range(longest + 1):
        if length == 0:
            layers.append({state: True for state, row in enumerate(form) if row[0]})
        else:
            layers.append(one_letter_before(form, layers[length - 1]))
        work = [("", 0)] if 0 in layers[length] else []
        while work:
            text, state = work.pop()
            left = length - len(text)
            if left == 0:
                yield text
            else:
                for index in reversed(range(len(texts.alphabet))):
                    move = form[state][1][index]
                    if move in layers[left - 1]:
                        work.append((text + texts.alphabet[index], move))


def length_range(texts):
    """Return the least and the greatest number of letters of a text, or None."""
    if texts.is_empty:
        return None
    least = len(least_text(texts))
    order = steady_order(texts.form)
    if order is None:
        return (least, None)
    most = {}
    for state in reversed(order):
        most[state] = max([0] + [most[move] + 1 for move in texts.form[state][1] if move is not None])
    return (least, most[0])
