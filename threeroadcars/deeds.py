"""The lines of deeds: read, and done on a bench (section 16); for journals.py and desk.py."""

DIGITS = "0123456789"
# What stands behind the word of a deed: w is any word, n an integer.
FORMS = {"flip": "wn", "widen": "n", "hang": "www", "take": "w", "join": "www", "part": "www"}
# Deeds with a row of words behind their word, all of one kind.
ROWS = {"put": "n", "switch": "w"}


def is_number(word):
    """Whether a word is an integer as Python writes it."""
    digits = word[1:] if word.startswith("-") else word
    if not digits or not all([digit in DIGITS for digit in digits]):
        return False
    return not digits.startswith("0") or word == "0"


def first_word(line):
    """What stands ahead of a line's first blank; all of it without one."""
    return line.split(" ")[0]


def is_deed_word(word):
    """Whether a word is that of a deed."""
    return word in FORMS or word in ROWS


def read_words(kinds, words):
    """The words of a line, each of its kind; None if they are not so many or of other kinds."""
    if len(words) != len(kinds) or "" in words:
        return None
    if not all([kind == "w" or is_number(word) for kind, word in zip(kinds, words)]):
        return None
    return tuple([word if kind == "w" else int(word) for kind, word in zip(kinds, words)])


def read_deed(line):
    """The word of a deed and the tuple of its arguments; None for a line of another form."""
    words = line.split(" ")
    word, others = words[0], words[1:]
    if word in FORMS:
        given = read_words(FORMS[word], others)
        return None if given is None else (word, given)
    if word in ROWS:
        row = read_words(ROWS[word] * len(others), others)
        return None if row is None else (word, (row,))
    return None


def do_deed(bench, word, given):
    """Do the deed of a word on a bench."""
    match word:
        case "flip":
            bench.flip(*given)
        case "put":
            bench.put(*given)
        case "widen":
            bench.widen(*given)
        case "switch":
            bench.switch(*given)
        case "hang":
            bench.hang(*given)
        case "take":
            bench.take(*given)
        case "join":
            # Strings have a method of this name, too, and none of theirs takes a star.
            one, other, road = given
            bench.join(one, other, road)
        case "part":
            bench.part(*given)
