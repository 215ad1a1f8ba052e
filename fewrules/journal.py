"""Journals: texts that grow by records, and the power of which may fail."""

from fewrules.errors import InvalidLine


class Journal:
    """A text, whether the power is on, and the fuse: how many characters are still written, None for all."""

    def __init__(self, text=""):
        check_characters(text.replace("\n", ""))
        self.is_on = True
        self._fuse = None
        self._text = whole_lines(text)

    def add(self, record):
        """Add the record; return True if it and its newline were written."""
        check_characters(record)
        line = record + "\n"
        if not self.is_on:
            return False
        if self._fuse is None:
            self._text = self._text + line
            return True
        written = line[:self._fuse]
        self._text = self._text + written
        self._fuse = self._fuse - len(written)
        self.is_on = self._fuse > 0
        return written == line

    def fail(self, count):
        """Set the fuse, in the place of an earlier one, if the power is on."""
        if self.is_on:
            self._fuse = count
            self.is_on = count > 0

    def open_again(self):
        """Open the journal: the power is on, without a fuse, and what stands behind the last newline is removed."""
        self.is_on = True
        self._fuse = None
        self._text = whole_lines(self._text)

    def text(self):
        """Return the whole text."""
        return self._text

    def records(self):
        """Return the list of the records."""
        return whole_lines(self._text).split("\n")[:-1]


def whole_lines(text):
    """Return the text up to its last newline."""
    return text[:text.rfind("\n") + 1]


def check_characters(text):
    """Raise InvalidLine if a character is not from the space to the tilde."""
    if not all(" " <= character <= "~" for character in text):
        raise InvalidLine("character")
