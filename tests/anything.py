"""Values of every kind that may be handed in where the document says "of anything"."""

MOST = 10 ** 60 - 1

# Whole numbers far from any bound, which are never a price, an amount, a band or a word.
FAR = [-MOST, -1000000001, -1000000, -2, -1, MOST]

TRUTHS = [True, False]

TEXTS = [
    "", " ", "\t", "\n", "0", "1", "5", "-1", "1.0", "None", "True", "~", "a b", "-",
    "Gold", "gold ", " gold", "gold\n", "go ld", "x1", "nosuchword",
]

LISTS = [
    [], [1], [5], ["gold"], ["buy"], [None], [[]], [[[[[[[[]]]]]]]],
    (), (1,), (5,), ("gold",), ("buy",), (None,), ((),), ([], [()]),
]

# None of these is a name, a price, an amount, a band, a side, a life, a guard or a rule.
WRONG = FAR + TRUTHS + TEXTS + LISTS

# What a name may not be, beside the above (and None).
NO_NAMES = [
    "", "abcdefghi", "abcdefghijklmnop", "A", "Z", "Ann", "anN", "a1", "1a", "0", "a_b", "_",
    "a b", " a", "a ", "a\n", "\na", "a\t", "`", "{", "a`", "z{", "@", "[", "a.b", "a-b", "~",
]

NAMES = ["a", "z", "m", "az", "ann", "abcdefg", "abcdefgh", "zzzzzzzz", "buy", "none", "owner"]

ANYTHING = [None, 0, 1, 5] + WRONG + NO_NAMES + NAMES + [
    "buy", ["a", ("b", ["c", None]), True], ("a", ["b", (1, [2])], False),
]


def alike(one, other):
    """Whether two values are alike in kinds too: True is no 1, a list no tuple."""
    if type(one) is not type(other):
        return False
    if isinstance(one, (list, tuple)):
        return len(one) == len(other) and all(map(alike, one, other))
    return one == other
