"""Whether two word rules read alike, for texts of any length."""

from plainscan.values import SIGNS
from plainscan.words import need_rule

OFTEN = 20
ENDINGS_SETTLED = 12
# In a class of words with the same endings each dull term comes of one word at most,
# and a rule has at most twelve dull terms: of thirteen words one at least is not dull.
ENOUGH_WORDS = 13


def read_alike(rule, other):
    """Whether each text has the same row by both rules."""
    return parting_text(rule, other) is None


def parting_text(rule, other):
    """A text that has unlike rows, None if the rules read alike."""
    need_rule(rule)
    need_rule(other)
    sign = sign_that_parts(rule, other)
    if sign is not None:
        return sign * OFTEN
    signs = live_letters(rule)
    if not signs:
        return None
    gap = gap_that_parts(rule, other)
    if gap is not None:
        sign = list(signs.values())[0]
        return sign * OFTEN + gap + sign * OFTEN
    word = word_that_parts(rule, other, sorted(signs))
    if word is None:
        return None
    return "".join([signs[letter] for letter in word])


def sign_that_parts(rule, other):
    """A sign that becomes a letter by one rule and not the same one by the other, None if there is none."""
    for sign in SIGNS:
        if rule.becomes(sign) != other.becomes(sign) and (rule.becomes(sign) or other.becomes(sign)):
            return sign
    return None


def gap_that_parts(rule, other):
    """A sign that is left out by one rule and parts words by the other, None if there is none."""
    for sign in SIGNS:
        if rule.becomes(sign) != other.becomes(sign):
            return sign
    return None


def live_letters(rule):
    """For each letter that some sign becomes, such a sign."""
    return {rule.becomes(sign): sign for sign in SIGNS if rule.becomes(sign)}


def word_that_parts(rule, other, letters):
    """A word of the letters whose terms are unlike, None if there is none."""
    for word in dull_words(rule, letters) + dull_words(other, letters):
        if rule.term(word) != other.term(word):
            return word
    for length in list(range(1, ENDINGS_SETTLED + 1)) + [OFTEN]:
        for word in sample_words(rule, other, letters, length):
            if rule.term(word) != other.term(word):
                return word
    return None


def dull_words(rule, letters):
    """Words of the letters, all those that have a dull term among them."""
    words = []
    for term in rule.dull:
        for ending, put, _ in (("", "", 0), *rule.endings):
            if term.endswith(put):
                words.append(term[:len(term) - len(put)] + ending)
    return [word for word in words if is_of(word, letters)]


def is_of(word, letters):
    """Whether a word has no other letters."""
    return all([letter in letters for letter in word])


def due_endings(rule, letters, length):
    """The endings that words of the letters and of a length may lose, the empty one for none among them."""
    due = [ending for ending, _, least in rule.endings if len(ending) + least <= length and is_of(ending, letters)]
    return ["", *due]


def sample_words(rule, other, letters, length):
    """Enough words of a length for each pair of endings, of both rules, that are replaced in them."""
    ones = due_endings(rule, letters, length)
    twos = due_endings(other, letters, length)
    words = []
    for one in ones:
        for two in twos:
            tail = max(one, two, key=len)
            if tail.endswith(one) and tail.endswith(two):
                barred = [ending for ending in ones if len(ending) > len(one)]
                barred.extend([ending for ending in twos if len(ending) > len(two)])
                words.extend(words_with(tail, length, letters, barred))
    return words


def words_with(tail, length, letters, barred):
    """Words of a length that end with a tail and with none of the barred endings: enough of them, or all."""
    words = []
    if not any([tail.endswith(ending) for ending in barred]):
        gather_words(tail, length, letters, barred, words)
    return words


def gather_words(tail, length, letters, barred, words):
    """Puts such words into a list, until it has enough."""
    if len(tail) == length:
        words.append(tail)
        return
    for letter in letters:
        longer = letter + tail
        if len(words) < ENOUGH_WORDS and longer not in barred:
            gather_words(longer, length, letters, barred, words)
