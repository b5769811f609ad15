"""What several tests share."""

GREAT = 10 ** 30
LETTERS = "abcdefghijklmnopqrstuvwxyz"
# All signs that may be handed in, but for the letters of names.
OTHER_SIGNS = [chr(code) for code in range(127) if chr(code) not in LETTERS + "%"]


class Prickly:
    """A thing that can be neither compared nor put into a dict nor written out."""

    def __eq__(self, other):
        raise RuntimeError("compared")

    __hash__ = None
    __lt__ = __le__ = __gt__ = __ge__ = __len__ = __iter__ = __bool__ = __repr__ = __str__ = __eq__


def odd_things():
    """Things that are no town, no day, no jobs, no row, no name and no hours."""
    looped = ()
    holder = [looped]
    looped = (holder,)
    holder.append(looped)
    return [
        None, True, False, -1, 10 ** 5000, -10 ** 5000, "", "Ann", "ann bob", b"ann", bytearray(b"ann"),
        (), ("ann",), looped, holder, {"ann": 1}, {"ann"}, frozenset(), range(3), iter([]), object(),
        Prickly(), [Prickly()], (Prickly(), Prickly(), Prickly()), (Prickly(),) * 4, ([], [], []), ({}, {}, {}, {}),
        Prickly, len, lambda: None, NotImplemented, Ellipsis, ValueError("ann"),
    ]


def outcome(call, *given):
    """What a call tells, or the class of the error that it raises."""
    try:
        return call(*given)
    except Exception as error:
        return error.__class__


def names(many, first=""):
    """So many names, all unlike."""
    return [first + LETTERS[at // 26] + LETTERS[at % 26] for at in range(many)]


def even_town(many=3, purse=0, floor=-100, ceiling=100):
    """A town of so many neighbours with like purses: aa, ab, ac .."""
    return [(name, purse, floor, ceiling) for name in names(many)]
