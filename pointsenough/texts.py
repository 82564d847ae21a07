"""What all texts share: lines with their ends, and numbers in figures."""

from pointsenough.errors import NotText

LETTERS = "abcdefghijklmnopqrstuvwxyz"
FIGURES = "0123456789"


def need_text(value):
    """Raise NotText for any value that is no text."""
    if not isinstance(value, str):
        raise NotText()


def ended_lines(text):
    """The pair (lines, rest): the list of a text's lines without their ends, and what stands behind the last end."""
    pieces = text.split("\n")
    return pieces[:-1], pieces[-1]


def number_in(word, most):
    """The integer from 0 to most that a word tells in figures, without needless zeros; None if there is none."""
    # Words that are too long are left aside unread: Python refuses to read very long ones.
    if not word.isascii() or not word.isdigit() or len(word) > len(str(most)):
        return None
    number = int(word)
    return number if str(number) == word and number <= most else None


def numbers_in(words, most):
    """The tuple of the integers from 0 to most that words tell, None if one of them tells none."""
    numbers = [number_in(word, most) for word in words]
    return None if None in numbers else tuple(numbers)


def words_in(text):
    """The list of pairs (word, index): runs of letters, runs of figures, "<=", and all other signs but blanks."""
    words = []
    ahead = " "
    for index, sign in enumerate(text):
        if runs_on(ahead, sign):
            word, start = words.pop()
            words.append((word + sign, start))
        elif sign != " ":
            words.append((sign, index))
        ahead = sign
    return words


def runs_on(ahead, sign):
    """Whether a sign goes on with the word that the sign ahead of it belongs to."""
    if sign in LETTERS or sign in FIGURES:
        return ahead in LETTERS and sign in LETTERS or ahead in FIGURES and sign in FIGURES
    return ahead == "<" and sign == "="
