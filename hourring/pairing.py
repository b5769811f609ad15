"""Pairing: who of several givers works how long for whom of several takers."""


def paired(givers, takers):
    """Share all hours of the givers out to the takers, in their orders."""
    wanted = [hours for _, hours in takers]
    shares = []
    at = 0
    for giver, hours in givers:
        left = hours
        while left > 0:
            share = min(left, wanted[at])
            shares.append((giver, takers[at][0], share))
            left -= share
            wanted[at] -= share
            # Each share ends a giver or a taker, the last one both: so there are fewer than givers and takers.
            if wanted[at] == 0:
                at += 1
    return shares
