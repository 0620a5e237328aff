"""The order of what names one another, and the circles in it."""


def finished(names, uses):
    """Returns names in the order in which they are finished.

    `uses` is a dict from each name to the list of the names that are finished first, from left to right.
    """
    done = []
    seen = {}
    for name in names:
        if name not in seen:
            done.extend(_finished_from(name, uses, seen))
    return done


def on_circles(names, uses):
    """Returns the ascending list of the names that lie on circles."""
    users = {name: [] for name in names}
    for name in names:
        for other in uses[name]:
            users[other].append(name)
    found = []
    seen = {}
    # Going back from the last finished ones reaches just those that name one another in a circle.
    for name in reversed(finished(names, uses)):
        if name not in seen:
            group = _finished_from(name, users, seen)
            if len(group) > 1 or name in uses[name]:
                found.extend(group)
    return sorted(found)


def _finished_from(first, uses, seen):
    """Returns what is reached from a name and was not seen before, as it is finished; notes all of it as seen.

    Names may follow one another in long chains, so this keeps a stack of its own.
    """
    done = []
    stack = [(first, 0)]
    seen[first] = True
    while stack:
        name, at = stack.pop()
        if at == len(uses[name]):
            done.append(name)
            continue
        stack.append((name, at + 1))
        other = uses[name][at]
        if other not in seen:
            seen[other] = True
            stack.append((other, 0))
    return done
