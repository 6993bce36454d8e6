"""Playing sheets whose numbers are far too great to do every beat and every round."""

from firerest.players import Player

# Fewer beats are done one by one, which is quicker than to look for pictures that come back.
MANY_BEATS = 200


class FarPlayer(Player):
    """A player that skips rounds and beats that come back."""

    def do_run(self, beats):
        """Let beats pass without pokes."""
        if beats < MANY_BEATS:
            self.bench.run(beats)
        else:
            self.bench.jump(beats)

    def do_round(self, deeds, memo):
        """Do one round; `memo` has, for each picture, what a round did that began with it."""
        bench = self.bench
        picture = bench.scene.picture
        if picture not in memo:
            beats = bench.beats
            counts = bench.counts
            self.do_all(deeds)
            memo[picture] = (bench.scene, bench.beats - beats, less(bench.counts, counts))
        else:
            scene, beats, fired = memo[picture]
            bench.advance(scene, beats, fired)

    def do_times(self, deed):
        """Do the rounds until a picture comes back, and skip to the last ones."""
        _, many, deeds, memo = deed
        bench = self.bench
        seen = {}
        marks = []
        while len(marks) < many and bench.scene.picture not in seen:
            seen[bench.scene.picture] = len(marks)
            marks.append((bench.scene, bench.beats, bench.counts))
            self.do_round(deeds, memo)
        if len(marks) < many:
            self.skip(many - len(marks), marks[seen[bench.scene.picture]:])

    def skip(self, many, marks):
        """Skip rounds; `marks` has how the bench stood since its picture was the same."""
        bench = self.bench
        rounds, rest = divmod(many, len(marks))
        _, first_beats, first_counts = marks[0]
        beats = rounds * (bench.beats - first_beats)
        fired = [rounds * more for more in less(bench.counts, first_counts)]
        scene, last_beats, last_counts = marks[rest]
        bench.advance(scene, beats, fired)
        bench.advance(scene, last_beats - first_beats, less(last_counts, first_counts))


def less(counts, before):
    """Return what the counts are more than they were before."""
    return tuple([many - few for many, few in zip(counts, before)])


def with_memos(deeds):
    """Return the deeds with a memo as a further item of each block of `times`."""
    found = []
    for deed in deeds:
        if deed[0] == "times":
            found.append(("times", deed[1], with_memos(deed[2]), {}))
        elif deed[0] == "when":
            found.append(deed[:3] + (with_memos(deed[3]), with_memos(deed[4])))
        elif deed[0] == "try":
            found.append(("try", with_memos(deed[1])))
        else:
            found.append(deed)
    return found


def play_far(sheet):
    """Return the lines that the deeds of the sheet print, whatever their work is."""
    player = FarPlayer(sheet)
    player.do_all(with_memos(sheet.deeds))
    return tuple(player.printed)
