"""Reading a sentence from its text."""

from usualdays.errors import BadSentence
from usualdays.marks import name_fault
from usualdays.sentences import Always, Both, Either, Mark, Never, Not

LONGEST_TEXT = 1200
DEEPEST = 12
SENTENCE_WORDS = ("and", "any", "never", "not", "or")
END = ""


def is_letter(sign):
    """Tell whether a character is a letter from a to z."""
    return "a" <= sign <= "z"


def check_text(text):
    """Raise BadSentence for what is no text, too long, or has a character that no sentence has."""
    if not isinstance(text, str):
        raise BadSentence("text", None)
    if len(text) > LONGEST_TEXT:
        raise BadSentence("long", None)
    for at, sign in enumerate(text):
        if not is_letter(sign) and sign not in ("(", ")", " "):
            raise BadSentence("character", at)


def words_of(text):
    """Return pairs of a word or parenthesis and its index, and the end of the text as a last pair."""
    words = []
    begin = 0
    for at, sign in enumerate(text + " "):
        if is_letter(sign):
            continue
        if begin < at:
            words.append((text[begin:at], begin))
        if sign != " ":
            words.append((sign, at))
        begin = at + 1
    words.append((END, len(text)))
    return words


def check_words(words):
    """Raise BadSentence for the first word that can stand nowhere in a sentence."""
    for word, at in words:
        if word in SENTENCE_WORDS or word in ("(", ")", END):
            continue
        if name_fault(word) is not None:
            raise BadSentence("word", at)


def read_either(words, place, depth):
    """Read operands joined by "or"; return the sentence and the place behind it."""
    part, place = read_both(words, place, depth)
    parts = [part]
    while words[place][0] == "or":
        part, place = read_both(words, place + 1, depth)
        parts.append(part)
    if len(parts) == 1:
        return part, place
    return Either(parts), place


def read_both(words, place, depth):
    """Read operands joined by "and"; return the sentence and the place behind it."""
    part, place = read_operand(words, place, depth)
    parts = [part]
    while words[place][0] == "and":
        part, place = read_operand(words, place + 1, depth)
        parts.append(part)
    if len(parts) == 1:
        return part, place
    return Both(parts), place


def read_operand(words, place, depth):
    """Read what "and" and "or" join; depth counts the words "not" and parentheses around it."""
    word, at = words[place]
    if word in (END, ")", "and", "or"):
        raise BadSentence("operand", at)
    if word == "any":
        return Always(), place + 1
    if word == "never":
        return Never(), place + 1
    if word not in ("not", "("):
        return Mark(word), place + 1
    if depth == DEEPEST:
        raise BadSentence("deep", at)
    if word == "not":
        part, place = read_operand(words, place + 1, depth + 1)
        return Not(part), place
    part, place = read_either(words, place + 1, depth + 1)
    if words[place][0] != ")":
        raise BadSentence("operator", words[place][1])
    return part, place + 1


def read_sentence(text):
    """Return the sentence that a text says."""
    check_text(text)
    words = words_of(text)
    check_words(words)
    sentence, place = read_either(words, 0, 0)
    if words[place][0] != END:
        raise BadSentence("operator", words[place][1])
    return sentence
