"""Playing sheets, as long as their work has a limit."""

from firerest.errors import TooLong
from firerest.players import Player


class Worker(Player):
    """A player that counts the work, and stops before there is too much of it."""

    def __init__(self, sheet, limit):
        super().__init__(sheet)
        self.limit = limit
        self.work = 0

    def do(self, deed):
        """Do one deed, if its work is inside the limit."""
        self.work += 1 + (deed[1] if deed[0] in ("run", "times") else 0)
        if self.work > self.limit:
            raise TooLong(self.limit)
        super().do(deed)


def play(sheet, *, limit=20000):
    """Return the lines that the deeds of the sheet print."""
    player = Worker(sheet, limit)
    player.do_all(sheet.deeds)
    return tuple(player.printed)
