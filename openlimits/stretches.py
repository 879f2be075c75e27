"""Stretches of days on which time stands still: pairs of first and last day, in order, that never touch."""


def with_stop(stretches, first, last):
    joined_first = first
    joined_last = last
    kept = []
    for stretch in stretches:
        # One that ends on the day before, or begins on the day behind, would touch.
        if stretch[1] < first - 1 or stretch[0] > last + 1:
            kept.append(stretch)
        else:
            joined_first = min(joined_first, stretch[0])
            joined_last = max(joined_last, stretch[1])
    kept.append((joined_first, joined_last))
    return sorted(kept)


def with_go(stretches, first, last):
    kept = []
    for stretch in stretches:
        if stretch[0] < first:
            kept.append((stretch[0], min(stretch[1], first - 1)))
        if stretch[1] > last:
            kept.append((max(stretch[0], last + 1), stretch[1]))
    return kept


def count_still(stretches, first, last):
    count = 0
    for stretch in stretches:
        count += max(0, min(stretch[1], last) - max(stretch[0], first) + 1)
    return count


# Days up to the first one count for nothing. The end is put off by one stretch after another, in order, for what
# one puts it off may bring the next within reach.
def made_good(stretches, first, end):
    for stretch in stretches:
        if stretch[0] <= end:
            end += max(0, stretch[1] - max(stretch[0] - 1, first))
    return end
