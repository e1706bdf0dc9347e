"""A console that controls a source by lines of text."""

from teesizes.checks import is_name, require_names
from teesizes.errors import InvalidCommand
from teesizes.live import Source
from teesizes.possible import possible_readers
from teesizes.texts import format_record


def answer_undo(source):
    """Revert a read."""
    source.undo()
    return "ok"


def answer_size(source):
    """Return the size of the buffer."""
    return str(source.size)


def answer_order(source):
    """Return the names in order."""
    return " ".join(source.names_in_order())


def answer_record(source):
    """Return the text of the record, or a word for none."""
    return format_record(source.current_record()) or "none"


def answer_possible(source):
    """Return the least and the greatest possible number of readers."""
    # The readers of the source have made the record, so some number is possible.
    least, greatest = possible_readers(source.current_record())
    return f"{least} -" if greatest is None else f"{least} {greatest}"


def answer_read(source, name):
    """Read an item and return its number."""
    return str(source.read_item(name))


def answer_position(source, name):
    """Return the position of a reader."""
    return str(source.position_of(name))


ANSWERS = {
    "undo": answer_undo,
    "size": answer_size,
    "order": answer_order,
    "record": answer_record,
    "possible": answer_possible,
}
ANSWERS_WITH_NAME = {"read": answer_read, "position": answer_position}


class Console:
    """A source with readers, controlled by lines."""

    def __init__(self, *names):
        self._source = Source(*names)

    @classmethod
    def with_names(cls, names):
        """Return a console for a source with the readers of a list of names."""
        require_names(names)
        return cls(*names)

    def execute(self, line):
        """Do what a line says and return the answer."""
        words = line.split(" ") if isinstance(line, str) else []
        if len(words) == 1 and words[0] in ANSWERS:
            answer = ANSWERS[words[0]]
            return answer(self._source)
        if len(words) == 2 and words[0] in ANSWERS_WITH_NAME and is_name(words[1]):
            answer_with_name = ANSWERS_WITH_NAME[words[0]]
            return answer_with_name(self._source, words[1])
        raise InvalidCommand("the console knows no such line")
