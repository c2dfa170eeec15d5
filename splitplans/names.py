"""The words of the plan language, and what a name is."""

MOST_CHARACTERS = 8
LETTERS = "abcdefghijklmnopqrstuvwxyz"
CHARACTERS = "abcdefghijklmnopqrstuvwxyz0123456789_"
WORDS = (
    "table", "key", "dealt", "anyhow", "copied", "zero", "scan", "where", "compute", "equal",
    "keep", "distinct", "group", "with", "count", "sum", "sort", "own", "split", "broadcast",
    "gather", "merge", "join", "semi", "anti", "union", "answer", "in", "self",
)


def is_name(word):
    """Whether this is a name; anything but a string is none."""
    if not isinstance(word, str) or word in WORDS:
        return False
    if len(word) == 0 or len(word) > MOST_CHARACTERS:
        return False
    return word[0] in LETTERS and all([sign in CHARACTERS for sign in word])
