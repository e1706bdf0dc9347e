"""The texts of records and states."""

from teesizes.checks import MOST_ITEMS, MOST_POSITION, MOST_READERS, require_state
from teesizes.errors import InvalidText
from teesizes.records import MOST_COUNT, is_run, require_record

LETTERS = {1: "u", 0: "s", -1: "d"}
CHANGES = {"u": 1, "s": 0, "d": -1}
DIGITS = "0123456789"


def format_record(record):
    """Return the text of a record."""
    require_record(record)
    return " ".join([f"{LETTERS[change]}{count:d}" for change, count in record])


def format_state(state):
    """Return the text of a state."""
    require_state(state)
    return " ".join([f"{entry:d}" for entry in state])


def words_of(text, most):
    """Return the words of a text; raise InvalidText unless it is a string with at most so many."""
    if not isinstance(text, str):
        raise InvalidText(None)
    words = [] if text == "" else text.split(" ")
    if len(words) > most:
        raise InvalidText(None)
    return words


def number_by(digits, most):
    """Return the number up to the greatest one that is written so, or None if there is none."""
    # The length comes first, for Python reads no number of very many digits.
    if not 1 <= len(digits) <= len(str(most)) or not all([digit in DIGITS for digit in digits]):
        return None
    if digits[0] == "0" and digits != "0":
        return None
    number = int(digits)
    return number if number <= most else None


def parse_record(text):
    """Return the record with this text."""
    record = []
    for index, word in enumerate(words_of(text, MOST_ITEMS)):
        run = (CHANGES.get(word[:1]), number_by(word[1:], MOST_COUNT))
        if not is_run(run) or (record and record[-1][0] == run[0]):
            raise InvalidText(index)
        record.append(run)
    return record


def parse_state(text):
    """Return the state with this text."""
    words = words_of(text, MOST_READERS)
    if not words:
        raise InvalidText(0)
    state = []
    for index, word in enumerate(words):
        entry = number_by(word, MOST_POSITION)
        if entry is None or (state and entry > state[-1]):
            raise InvalidText(index)
        state.append(entry)
    return state
