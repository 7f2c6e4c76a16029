"""Words of texts and of commands, and numbers written out."""

LETTERS = "abcdefghijklmnopqrstuvwxyz"
DIGITS = "0123456789"
MOST_LETTERS = 12
MOST_DIGITS = 4
CHUNK_DIGITS = 60
CHUNK = 10 ** 60


def is_made_of(word, signs):
    """Whether the word has at least one sign, and none but these."""
    return word != "" and all([sign in signs for sign in word])


def is_name(word):
    return is_made_of(word, LETTERS) and len(word) <= MOST_LETTERS


def is_number_word(word):
    """Whether the word is a number as it stands in texts: of few digits, no zero in front."""
    if not is_made_of(word, DIGITS) or len(word) > MOST_DIGITS:
        return False
    return word == "0" or word[0] != "0"


def digits(number):
    """All digits of an integer from 0 on: str alone refuses to write out very long ones."""
    chunks = []
    rest = number
    while rest >= CHUNK:
        rest, low = divmod(rest, CHUNK)
        chunks.append(str(low).zfill(CHUNK_DIGITS))
    chunks.append(str(rest))
    return "".join(chunks[::-1])
