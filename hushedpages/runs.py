"""The rows of blocks, figures and notes [22].

A run is a tuple of rows, a row is a triple: its strip (with its trace), the numbers of the notes whose marks stand in
it, and the words of the keys that begin in it. The strips of a table, and those of a formula, are one run, too.
"""

from hushedpages.formulas import traced_show
from hushedpages.listed import listed_heads, listed_keys, listed_labels
from hushedpages.pieces import struck_of
from hushedpages.rows import set_lines
from hushedpages.strips import blank_strip, joined, plain_strip
from hushedpages.tables import traced_table

UNKNOWN_PAGE = "??"
MARK = "*"
BULLET = "+ "
FRAME = "|"


class Setter:
    """Sets the blocks of a filled record, one after the other, with these numbers of pages."""

    def __init__(self, filled, style, numbers):
        labels, heads, pages = numbers
        self.style = style
        self.labels = dict(zip(listed_labels(filled), labels))
        self.headings = [filled[at][1] for at in listed_heads(filled)]
        self.heads = heads
        self.indexed = list(zip(listed_keys(filled), pages))
        # The pieces of the notes so far, in the order of their marks.
        self.noted = []

    def runs_of(self, block):
        """The runs of the next block."""
        kind = block[0]
        if kind == "head":
            return (self.ragged_run([self.word_of(piece) for piece in block[1]]),)
        if kind == "par":
            return (self.prose_run(block[1], self.style[0]),)
        if kind == "list":
            return tuple([self.item_run(pieces) for pieces in block[1]])
        if kind == "table":
            return (_plain_run(traced_table(self.style, [self.table_row(row) for row in block[1]])),)
        if kind == "show":
            return (_plain_run(traced_show(self.style, block[1])),)
        if kind == "contents":
            return tuple([self.contents_run(pieces, page) for pieces, page in zip(self.headings, self.heads)])
        if kind == "index":
            return tuple([self.index_run(word, pages) for word, pages in self.indexed])
        return ()

    def word_of(self, piece):
        """The word of a piece, and its mark if it is struck, 0 if not; a note is the next one."""
        kind = piece[0]
        if kind == "page":
            return _page_word(self.labels[piece[1]]), 0
        if kind == "note":
            self.noted.append(piece[1])
            return MARK + str(len(self.noted)), 0
        return piece[1], struck_of(piece)

    def prose_run(self, pieces, measure):
        """The run of a paragraph, or of an item that is set to this measure."""
        number = len(self.noted)
        words = [self.word_of(piece) for piece in pieces]
        strips, lines = set_lines(self.style, measure, words, False)
        rows = []
        for strip, begin, end in zip(strips, lines, lines[1:]):
            marks = []
            begun = []
            for piece in pieces[_words_begun(begin):_words_begun(end)]:
                if piece[0] == "note":
                    number += 1
                    marks.append(number)
                elif piece[0] == "key":
                    begun.append(piece[1])
            rows.append((strip, tuple(marks), tuple(begun)))
        return tuple(rows)

    def item_run(self, pieces):
        """The run of an item of a list."""
        rows = []
        for strip, marks, begun in self.prose_run(pieces, self.style[0] - len(BULLET)):
            left = blank_strip(len(BULLET)) if len(rows) > 0 else plain_strip(BULLET)
            rows.append((joined([left, strip]), marks, begun))
        return tuple(rows)

    def table_row(self, row):
        """The row of a table, with words for pieces."""
        return tuple([(span, tuple([self.word_of(piece) for piece in pieces])) for span, pieces in row])

    def contents_run(self, pieces, page):
        """The run of a heading in the contents."""
        return self.ragged_run([self.word_of(piece) for piece in pieces] + [(_page_word(page), 0)])

    def index_run(self, word, pages):
        """The run of a word in the index."""
        words = [word]
        if pages is None:
            words.append(UNKNOWN_PAGE)
        else:
            words.extend([str(page) + "," for page in pages[:-1]])
            words.extend([str(page) for page in pages[-1:]])
        return self.ragged_run([(told, 0) for told in words])

    def ragged_run(self, words):
        """The run of words that are set ragged."""
        return _plain_run(self.strips_of(words, True))

    def figure_strips(self, block):
        """The strips of a figure."""
        frame = plain_strip(FRAME * self.style[0])
        words = [self.word_of(piece) for piece in block[2]]
        caption = self.strips_of(words, True) if len(words) > 0 else ()
        return (frame,) * block[1] + caption + (frame,)

    def note_strips(self, number):
        """The strips of the note of this number."""
        words = [(MARK + str(number), 0)] + [self.word_of(piece) for piece in self.noted[number - 1]]
        return self.strips_of(words, False)

    def strips_of(self, words, ragged):
        """The strips of words that are set to the whole measure."""
        return set_lines(self.style, self.style[0], words, ragged)[0]


def _page_word(page):
    """The number of a page as a word."""
    return UNKNOWN_PAGE if page is None else str(page)


def _words_begun(position):
    """How many words of a row begin ahead of a position."""
    return position[0] + 1 if position[1] > 0 else position[0]


def _plain_run(strips):
    """The run of strips with no notes and keys."""
    return tuple([(strip, (), ()) for strip in strips])
