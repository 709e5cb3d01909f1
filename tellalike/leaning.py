"""Lean concepts: those of which no part can be left out without some things, which must not be in them, getting in.

The concepts are marked with the things of a model that are in them, as `mark` returns them; `missed` are the things
that must not be in them, as a number with a bit for each.
"""


def is_lean(model, marked, missed):
    """Whether some thing of missed is in each concept one step weaker than the marked one, in which none of them is."""
    todo = [(marked, missed)]
    while todo:
        (concept, _, inner), outside = todo.pop()
        if concept[0] == "all":
            continue
        if outside == 0:
            return False
        if concept[0] == "some":
            todo.append((inner[0], model.after(concept[1], outside)))
        elif concept[0] == "and":
            first, second = inner
            if outside & first[1] == 0 or outside & second[1] == 0:
                return False
            # Where one of the two is weaker, only what is in the other one can get in.
            todo.extend([(first, outside & second[1]), (second, outside & first[1])])
    return True


def made_lean(model, marked, missed):
    """The marked concept, in which none of missed is, made weaker step by step until it is lean for this."""
    concept, _, inner = marked
    if missed == 0:
        return (("all",), model.everything, ())
    if concept[0] == "some":
        below = made_lean(model, inner[0], model.after(concept[1], missed))
        return (("some", concept[1], below[0]), model.before(concept[1], below[1]), (below,))
    if concept[0] != "and":
        return marked
    if missed & inner[1][1] == 0:
        return made_lean(model, inner[1], missed)
    # What is lean for some things is lean for more, so the first one stays lean when the second one gets weaker.
    first = made_lean(model, inner[0], missed & inner[1][1])
    if missed & first[1] == 0:
        return first
    second = made_lean(model, inner[1], missed & first[1])
    return (("and", first[0], second[0]), first[1] & second[1], (first, second))
