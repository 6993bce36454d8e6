"""Stories: which pokes explain what was seen."""

from firerest.books import Book
from firerest.bounds import caps_of, fullest_story
from firerest.errors import NotAllSuspects
from firerest.runs import film, turns
from firerest.webs import check_places


def greatest_story(watch):
    """Return the pokes and the turns up to each beat of the greatest story, or None."""
    return fullest_story(watch, caps_of(watch, {}), watch.suspects)


def story(watch):
    """Return a book that explains the records, or None."""
    found = greatest_story(watch)
    return None if found is None else Book(found[0])


def is_story(watch, book):
    """Tell whether a book pokes only suspects, in time, and explains the records."""
    for beat, place in book.pokes:
        if beat >= watch.beats or place not in watch.suspects:
            return False
    for beat, shown in enumerate(film(watch.scene, watch.beats, book)):
        if any([states[beat] != shown.picture[place] for place, states in watch.records]):
            return False
    return True


def most_turns(watch, place, beat):
    """Return the most turns of a place up to a beat in all stories, or None."""
    check_places(watch.scene.web, (place,))
    found = greatest_story(watch)
    return None if found is None else found[1][beat][place]


def check_all_suspects(watch):
    """Raise `NotAllSuspects` unless every place is a suspect."""
    if len(watch.suspects) < watch.scene.web.size:
        raise NotAllSuspects()


def record_book(watch):
    """Return the book that makes recorded places fire when they did, and pokes no others."""
    pokes = []
    for place, states in watch.records:
        pokes.extend([(beat - 1, place) for beat, state in enumerate(states) if state == 1 and beat > 0])
    return Book(pokes)


def least_turns(watch, place, beat):
    """Return the fewest turns of a place up to a beat in all stories, or None."""
    check_places(watch.scene.web, (place,))
    check_all_suspects(watch)
    # More pokes never make a turn less: so a story that pokes only what the
    # records demand has the fewest, and if it is none, there is none.
    book = record_book(watch)
    return turns(watch.scene, beat, book)[place] if is_story(watch, book) else None


def story_with(watch, place, beat, many):
    """Return a story in which a place has exactly `many` turns up to a beat, or None."""
    check_places(watch.scene.web, (place,))
    check_all_suspects(watch)
    found = fullest_story(watch, caps_of(watch, {(beat, place): many}), watch.suspects)
    return Book(found[0]) if found is not None and found[1][beat][place] == many else None


def must(watch):
    """Return the suspects that are poked in every story, or None if there is no story."""
    caps = caps_of(watch, {})
    if fullest_story(watch, caps, watch.suspects) is None:
        return None
    needed = []
    for suspect in watch.suspects:
        others = [other for other in watch.suspects if other != suspect]
        if fullest_story(watch, caps, others) is None:
            needed.append(suspect)
    return tuple(needed)
