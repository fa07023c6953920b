"""Sessions: boards that replicas share, with mail that may be delayed, exchanged or lost."""

from sharedboard.deeds import deed_class, deed_matrix
from sharedboard.errors import Held, NoBoard, NoIndex, NoMany, NoReplica, NotLet, TooMany
from sharedboard.kinds import copied, is_between, is_board, is_index
from sharedboard.matrices import applied
from sharedboard.orders import check_order, stays

MOST_REPLICAS = 4


def put_at(items, index, item):
    """Return a list with another item at an index."""
    return [*items[:index], item, *items[index + 1:]]


def deeds_of(messages):
    """Return the list of the deeds of messages."""
    return [copied(deed) for deed, _, _ in messages]


class Session:
    """A board shared by replicas.

    A message is a tuple (deed, class, board matrix). Boards, mails and the log are never changed in place but
    replaced: so what they were can be put back as it is.
    """

    def __init__(self, book, sender, *, replicas=2, order=None):
        if not is_between(replicas, 1, MOST_REPLICAS):
            raise NoMany()
        if order is not None:
            check_order(book, order)
        self._book = book
        self._sender = sender
        self._order = copied(order)
        self._boards = [tuple([0] * book.cells()) for _ in range(replicas)]
        self._mails = [[] for _ in range(replicas)]
        self._log = []

    def _mail_of(self, replica):
        """Return the messages of a replica; raise NoReplica."""
        if not is_index(replica, len(self._mails)):
            raise NoReplica()
        return self._mails[replica]

    def _put_mail(self, replica, messages):
        self._mails = put_at(self._mails, replica, messages)

    def _do(self, replica, messages):
        """Let a replica do the deeds of messages."""
        vector = [1, *self._boards[replica]]
        for _, _, matrix in messages:
            vector = applied(len(vector), matrix, vector)
        self._boards = put_at(self._boards, replica, tuple(vector[1:]))

    def _is_held(self, ahead, cls):
        """Tell whether a deed of one class must stay ahead of a deed of another one."""
        return self._order is None or stays(self._order, ahead, cls)

    def send(self, deed):
        """Append a deed to the log and to the mail of each replica."""
        cls = deed_class(self._book, deed)
        if not self._sender.behind(0, [*[earlier for _, earlier, _ in self._log], cls]):
            raise NotLet()
        message = (copied(deed), cls, deed_matrix(self._book, deed))
        self._log = [*self._log, message]
        self._mails = [[*mail, message] for mail in self._mails]

    def __iadd__(self, other):
        self.send(other)
        return self

    def deliver(self, replica, *, at=0):
        """Let a replica do the deed at an index of its mail."""
        mail = self._mail_of(replica)
        if not is_index(at, len(mail)):
            raise NoIndex()
        if any([self._is_held(ahead, mail[at][1]) for _, ahead, _ in mail[:at]]):
            raise Held()
        self._do(replica, [mail[at]])
        self._put_mail(replica, mail[:at] + mail[at + 1:])

    def lose(self, replica):
        """Remove the first deed of the mail of a replica."""
        mail = self._mail_of(replica)
        if not mail:
            raise NoIndex()
        self._put_mail(replica, mail[1:])

    def exchange(self, replica):
        """Exchange the first two deeds of the mail of a replica."""
        mail = self._mail_of(replica)
        if len(mail) < 2:
            raise NoIndex()
        self._put_mail(replica, [mail[1], mail[0], *mail[2:]])

    def join(self, board):
        """Add a replica with a board and no mail, and return its index."""
        if not is_board(board, self._book.cells()):
            raise NoBoard()
        if len(self._boards) == MOST_REPLICAS:
            raise TooMany(MOST_REPLICAS)
        self._boards = [*self._boards, board]
        self._mails = [*self._mails, []]
        return len(self._boards) - 1

    def mail(self, replica):
        """Return the list of the deeds in the mail of a replica."""
        return deeds_of(self._mail_of(replica))

    def log(self):
        """Return the list of all deeds that were sent."""
        return deeds_of(self._log)

    def level(self):
        """Tell whether no replica has mail and all boards are equal."""
        return not any(self._mails) and all([board == self._boards[0] for board in self._boards])

    def settle(self):
        """Deliver all mail, for each replica in order from its first deed on."""
        for replica, messages in enumerate(self._mails):
            self._do(replica, messages)
        self._mails = [[] for _ in self._mails]

    def tried(self, action):
        """Return what a function makes of the session, and put back what it changed."""
        kept_boards, kept_mails, kept_log = self._boards, self._mails, self._log
        try:
            return action(self)
        finally:
            self._boards, self._mails, self._log = kept_boards, kept_mails, kept_log

    def __len__(self):
        return len(self._boards)

    def __getitem__(self, at):
        if not is_index(at, len(self._boards)):
            raise NoReplica()
        return self._boards[at]

    def __iter__(self):
        raise TypeError("a session is not iterated over")

    def __eq__(self, other):
        return (
            isinstance(other, Session) and self._book == other._book and self._sender == other._sender
            and self._order == other._order and self._boards == other._boards
            and self._mails == other._mails and self._log == other._log
        )
