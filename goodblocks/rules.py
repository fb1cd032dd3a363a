"""Rules: the words of a text, its first fault, the blocks that a rule lets, and what it looks at."""

from goodblocks.blocks import in_both, in_either, less, long_ones

LETTERS = "abcdefghijklmnopqrstuvwxyz"
DIGITS = "0123456789"
KEYWORDS = ("all", "not", "both", "either", "long")
BLANK = 32
LONGEST_NAME = 8
LONGEST_NUMBER = 7
GREATEST_N = 20
DEEPEST = 8

NO_FAULT = 0
CANNOT_STAND = 1
OUT_OF_RANGE = 2
NOT_KNOWN = 3
TOO_DEEP = 4

# Stands among the depths of RULEs to come where the N of a `long` is to come.
NUMBER = -1


def sign_of(byte):
    """A letter or a digit as it is; any other byte as a sign that no right word has."""
    if ord("a") <= byte <= ord("z"):
        return LETTERS[byte - ord("a")]
    if ord("0") <= byte <= ord("9"):
        return DIGITS[byte - ord("0")]
    return "?"


def spelled(row):
    return "".join([sign_of(byte) for byte in row])


def is_name(word):
    return 1 <= len(word) <= LONGEST_NAME and word.isalpha() and word not in KEYWORDS


def is_number(word):
    if len(word) > LONGEST_NUMBER or not word.isdigit():
        return False
    return word == "0" or not word.startswith("0")


def placed_words(text):
    """The words of a text's bytes, each as (how many bytes stand ahead of it, word)."""
    found = []
    start = 0
    for place, byte in enumerate(text + [BLANK]):
        if byte == BLANK:
            if start < place:
                found.append((start, spelled(text[start:place])))
            start = place + 1
    return found


def words_of(text):
    return [word for place, word in placed_words(text)]


def one_text(words):
    return [ord(sign) for sign in " ".join(words)]


def number_fault(word):
    if not is_number(word):
        return CANNOT_STAND
    if not 1 <= int(word) <= GREATEST_N:
        return OUT_OF_RANGE
    return NO_FAULT


def first_word_fault(word, depth, names):
    """The fault of a RULE's first word, with so many RULEs around it."""
    if depth >= DEEPEST:
        return TOO_DEEP
    if word in KEYWORDS or word in names:
        return NO_FAULT
    if is_name(word):
        return NOT_KNOWN
    return CANNOT_STAND


def parts_to_come(word, depth):
    """What belongs behind a RULE's first word, the last part first: the depth of a RULE, or NUMBER."""
    if word == "not":
        return [depth + 1]
    if word == "both" or word == "either":
        return [depth + 1, depth + 1]
    if word == "long":
        return [depth + 1, NUMBER]
    return []


def fault_of(text, names):
    """The first fault of a text's bytes, as (kind, place); its kind is NO_FAULT if there's none."""
    to_come = [0]
    for place, word in placed_words(text):
        if not to_come:
            return (CANNOT_STAND, place)
        depth = to_come.pop()
        if depth == NUMBER:
            kind = number_fault(word)
        else:
            kind = first_word_fault(word, depth, names)
            to_come.extend(parts_to_come(word, depth))
        if kind != NO_FAULT:
            return (kind, place)
    if to_come:
        return (CANNOT_STAND, len(text))
    return (NO_FAULT, 0)


def blocks_let(words, sets, whole):
    """The blocks that a faultless rule lets; sets has those of each defect by its name, whole is all there are."""
    # Walked from the end, each word finds the sets of its RULEs at the end of ready, the first one last.
    ready = []
    least = 0
    for word in reversed(words):
        if word == "all":
            ready.append(whole)
        elif word == "not":
            ready.append(less(whole, ready.pop()))
        elif word == "both":
            first = ready.pop()
            ready.append(in_both(first, ready.pop()))
        elif word == "either":
            first = ready.pop()
            ready.append(in_either(first, ready.pop()))
        elif word == "long":
            ready.append(long_ones(ready.pop(), least))
        elif word.isdigit():
            least = int(word)
        else:
            ready.append(sets[word])
    return ready[0]


def how_far(words):
    """How far a faultless rule looks."""
    ready = []
    least = 0
    for word in reversed(words):
        if word == "both" or word == "either":
            first = ready.pop()
            ready.append(max(first, ready.pop()))
        elif word == "long":
            ready.append(ready.pop() + least - 1)
        elif word.isdigit():
            least = int(word)
        elif word != "not":
            ready.append(0)
    return ready[0]


def defects_named(words, names):
    """The numbers of the defects that stand among the words, rising; names has the defects' names in order."""
    return [d for d, name in enumerate(names) if name in words]
