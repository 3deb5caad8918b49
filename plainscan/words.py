"""Word rules: how a text becomes a row of terms."""

from plainscan.errors import (
    InvalidDrops, InvalidDull, InvalidEndings, InvalidFolds, InvalidLetters, InvalidTerm, InvalidText, NotAWordRule)
from plainscan.values import (
    SIGNS, SMALL_LETTERS, SMALL_OR_FIGURES, is_made_of, is_number, is_sign, is_tuple_of, need_text)

MOST_LETTERS = 40
MOST_FOLDS = 60
MOST_ENDINGS = 12
MOST_DULL = 12
LONGEST_ENDING = 6
LONGEST_DULL = 12
LONGEST_WORD = 200
LARGE_LETTERS = "ABCDEFGHIJKLMNOPQRSTUVWXYZ"


def is_unlike_signs(value):
    """Whether a value is a string of unlike signs, not too many for letters or drops."""
    return is_made_of(value, SIGNS, 0, MOST_LETTERS) and len(set(value)) == len(value)


def is_fold(value):
    """Whether a value is a pair of signs."""
    return is_tuple_of(value, 2, 2) and is_sign(value[0]) and is_sign(value[1])


def is_ending(value, letters):
    """Whether a value is a triple (ENDING, PUT, LEAST) of a rule with these letters."""
    if not is_tuple_of(value, 3, 3) or not is_number(value[2], 1, LONGEST_ENDING):
        return False
    return is_made_of(value[0], letters, 1, LONGEST_ENDING) and is_made_of(value[1], letters, 0, LONGEST_ENDING)


def need_letters(letters):
    """An error for what is no letters of a word rule."""
    if not is_unlike_signs(letters) or " " in letters:
        raise InvalidLetters(letters)


def need_folds(folds):
    """An error with the first fold that is wrong."""
    if type(folds) is not tuple:
        raise InvalidFolds(None)
    before = {}
    for at, fold in enumerate(folds):
        if at == MOST_FOLDS or not is_fold(fold) or fold[0] in before:
            raise InvalidFolds(at)
        before[fold[0]] = True


def need_drops(drops, letters):
    """An error for what is no drops beside these letters."""
    if not is_unlike_signs(drops) or any([sign in letters for sign in drops]):
        raise InvalidDrops(drops)


def need_endings(endings, letters):
    """An error with the first ending that is wrong."""
    if type(endings) is not tuple:
        raise InvalidEndings(None)
    before = {}
    for at, ending in enumerate(endings):
        if at == MOST_ENDINGS or not is_ending(ending, letters) or ending[0] in before:
            raise InvalidEndings(at)
        before[ending[0]] = True


def need_dull(dull, letters):
    """An error with the first dull term that is wrong."""
    if type(dull) is not tuple:
        raise InvalidDull(None)
    last = ""
    for at, term in enumerate(dull):
        if at == MOST_DULL or not is_made_of(term, letters, 1, LONGEST_DULL) or term <= last:
            raise InvalidDull(at)
        last = term


def need_rule(rule):
    """An error for what is no word rule."""
    if not isinstance(rule, WordRule):
        raise NotAWordRule(rule)


def outcome(sign, letters, folds, drops):
    """The letter that comes of a sign, the empty string if it is left out, a space if it parts words."""
    became = folds.get(sign, sign)
    if became in drops:
        return ""
    if became in letters:
        return became
    # The space is none of the letters, so it cannot be taken for one.
    return " "


class WordRule:
    """A way to read texts: letters, folds, drops, endings and dull terms."""
    def __init__(self, letters, folds=(), drops="", endings=(), dull=()):
        need_letters(letters)
        need_folds(folds)
        need_drops(drops, letters)
        need_endings(endings, letters)
        need_dull(dull, letters)
        self.letters = letters
        self.folds = folds
        self.drops = drops
        self.endings = endings
        self.dull = dull
        self.parts = (letters, folds, drops, endings, dull)
        replaced = dict(folds)
        self._outcomes = {sign: outcome(sign, letters, replaced, drops) for sign in SIGNS}
        # The longest ending goes first: the first one that fits is the one that is replaced.
        self._by_length = sorted(endings, key=lambda ending: -len(ending[0]))

    def __eq__(self, other):
        return isinstance(other, WordRule) and self.parts == other.parts

    def becomes(self, sign):
        """The letter that comes of a sign, the empty string if it is left out, None if it parts words."""
        if not is_sign(sign):
            raise InvalidText(sign)
        if self._outcomes[sign] == " ":
            return None
        return self._outcomes[sign]

    def term(self, word):
        """The term of a word, None if it is dull."""
        if not is_made_of(word, self.letters, 1, LONGEST_WORD):
            raise InvalidTerm(word)
        return self._term_of(word)

    def row(self, text):
        """The terms of the words of a text, None in the place of each dull one."""
        need_text(text)
        words = "".join([self._outcomes[sign] for sign in text]).split(" ")
        return tuple([self._term_of(word) for word in words if word])

    def _term_of(self, word):
        term = word
        for ending, put, least in self._by_length:
            if word.endswith(ending) and len(word) - len(ending) >= least:
                term = word[:len(word) - len(ending)] + put
                break
        if term in self.dull:
            return None
        return term


def plain_rule():
    """The rule for plain English texts."""
    folds = tuple(zip(LARGE_LETTERS, SMALL_LETTERS))
    endings = (("ies", "y", 2), ("s", "", 3), ("ss", "ss", 1))
    return WordRule(SMALL_OR_FIGURES, folds, "'", endings, ("a", "an", "of", "the"))
