"""The lightest covering."""

from eachonce.coverings import choices_of, gathered


def lightest(box):
    def lightest_behind(behind):
        best = None
        for number, found in behind:
            if found is not None:
                weight = found[0] + (box[2][number][1] if number >= 0 else 0)
                # The choices come in the order of the ranks, so of several as light the first stays.
                if best is None or weight < best[0]:
                    best = (weight, (number,) + found[1] if number >= 0 else found[1])
        return best

    told = gathered(choices_of(box), (0, ()), lightest_behind)[0]
    if told is None:
        return None
    return (told[0], tuple(sorted(told[1])))
