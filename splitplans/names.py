"""The words of the plan language, and what a name is."""

MOST_CHARACTERS = 8
LETTERS = "abcdefghijklmnopqrstuvwxyz"
CHARACTERS = "abcdefghijklmnopqrstuvwxyz0123456789_"
WORDS = (
    "table", "key", "dealt", "anyhow", "copied", "zero", "scan", "where", "compute", "equal",
    "keep", "distinct", "group", "with", "count", "sum", "sort", "own", "split", "broadcast",
    "gather", "merge", "join", "semi", "anti", "union", "answer", "in", "self",
)


def is_name(word):
    """Whether the string is a name."""
    if len(word) == 0 or len(word) > MOST_CHARACTERS or word in WORDS:
        return False
    return word[0] in LETTERS and all([sign in CHARACTERS for sign in word])
