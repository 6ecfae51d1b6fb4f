"""A hall: a tent with named threads, named families and fractions, and what is done there."""

from tentloops.counts import counts_behind, look_counts, tally, traced
from tentloops.errors import BadName, NoDeed, Rim, Taken, TooGreat, TooMany, Unknown
from tentloops.exchange import exchanged
from tentloops.pulling import pulled
from tentloops.stretch import even_worths, fraction, stretched, worth
from tentloops.tents import Tent
from tentloops.texts import counts_text, is_name, row_text
from tentloops.words import alike, look_thread

MOST_PLACES = 400
GREATEST_PART = 10 ** 60


class Scene:
    """All that lies in a hall at one time; once made it never changes, so that back can return to it."""

    def __init__(self, tent, threads, pools, worths):
        self.tent = tent
        self.threads = threads
        self.pools = pools
        self.worths = worths


def with_item(table, name, value):
    """A copy of the dict with one more item, or another one, under this name."""
    copied = dict(table)
    copied[name] = value
    return copied


def without_item(table, name):
    """A copy of the dict without what it may have under this name."""
    return {key: value for key, value in table.items() if key != name}


def look_new_name(scene, name):
    """Refuse a name that cannot be given."""
    if not is_name(name):
        raise BadName("a name has one to eight small letters")
    if name in scene.threads or name in scene.pools:
        raise Taken("the name stands already")


def look_length(word):
    """Refuse a thread that is too long for a hall."""
    if len(word) > MOST_PLACES:
        raise TooMany("a thread of a hall has at most 400 places")


def look_parts(parts):
    """Refuse a fraction in lowest terms that is too great for a hall."""
    if max(parts) > GREATEST_PART:
        raise TooGreat("a fraction of a hall has no part above 10 ** 60")


def turned_scene(scene, seam, way):
    """What lies in the hall behind the exchange of a seam."""
    tent = exchanged(scene.tent, seam, way)
    threads = {name: pulled(scene.tent, seam, way, word) for name, word in scene.threads.items()}
    for word in threads.values():
        look_length(word)
    pools = {name: counts_behind(scene.tent, counts, seam) for name, counts in scene.pools.items()}
    worths = stretched(scene.tent, scene.worths, seam)
    for parts in worths.values():
        look_parts(parts)
    return Scene(tent, threads, pools, worths)


class Hall:
    """A hall; each of its deeds makes a new scene or is refused and changes nothing."""

    def __init__(self, rows):
        self.began = Tent(rows)
        self.scene = Scene(self.began, {}, {}, even_worths(self.began))
        # Each with the scene to which one comes: by back to the one ahead, by again to the one behind.
        self.standing = []
        self.undone = []

    def enter(self, text, scene):
        """Let a new deed stand."""
        self.standing.append((text, self.scene))
        self.undone = []
        self.scene = scene

    def lay(self, name, word):
        """Lay a thread under a new name."""
        now = self.scene
        look_new_name(now, name)
        look_thread(now.tent, word)
        look_length(word)
        threads = with_item(now.threads, name, list(word))
        self.enter(row_text(["lay", name] + word), Scene(now.tent, threads, now.pools, now.worths))

    def pour(self, name, counts):
        """Pour a family under a new name."""
        now = self.scene
        look_new_name(now, name)
        look_counts(now.tent, counts)
        pools = with_item(now.pools, name, dict(counts))
        self.enter(row_text(["pour", name, counts_text(counts)]), Scene(now.tent, now.threads, pools, now.worths))

    def lift(self, name):
        """Take away the thread or the family of this name."""
        now = self.scene
        if name not in now.threads and name not in now.pools:
            raise Unknown("no thread and no family has this name")
        threads, pools = without_item(now.threads, name), without_item(now.pools, name)
        self.enter(row_text(["lift", name]), Scene(now.tent, threads, pools, now.worths))

    def weigh(self, seam, top, bottom):
        """Give a sewn seam a fraction."""
        now = self.scene
        if now.tent.sort_of(seam) == "rim":
            raise Rim("a rim has no fraction")
        parts = fraction(top, bottom)
        look_parts(parts)
        worths = with_item(now.worths, seam, parts)
        text = f"weigh {seam} {parts[0]}/{parts[1]}"
        self.enter(text, Scene(now.tent, now.threads, now.pools, worths))

    def turn(self, seam, way):
        """Exchange a seam, with all that lies on the tent."""
        behind = turned_scene(self.scene, seam, way)
        self.enter(row_text(["turn", seam, way]), behind)

    def back(self):
        """Take the last standing deed back."""
        if not self.standing:
            raise NoDeed("no deed stands")
        text, earlier = self.standing.pop()
        self.undone.append((text, self.scene))
        self.scene = earlier

    def again(self):
        """Do the deed again that was taken back last."""
        if not self.undone:
            raise NoDeed("no deed has been taken back")
        text, later = self.undone.pop()
        self.standing.append((text, self.scene))
        self.scene = later

    def deeds(self):
        """The standing deeds as texts, in their order."""
        return [text for text, earlier in self.standing]

    def first_rows(self):
        """The cloths of the tent with which the hall began."""
        return self.began.rows()

    def tent_rows(self):
        """The cloths of the tent as it is."""
        return self.scene.tent.rows()

    def names(self):
        """The names of all threads, rising."""
        return sorted(self.scene.threads)

    def families(self):
        """The names of all families, rising."""
        return sorted(self.scene.pools)

    def thread(self, name):
        """The places of a thread."""
        if name not in self.scene.threads:
            raise Unknown("no thread has this name")
        return list(self.scene.threads[name])

    def pool(self, name):
        """The numbers of a family."""
        if name not in self.scene.pools:
            raise Unknown("no family has this name")
        return dict(self.scene.pools[name])

    def pool_threads(self, name):
        """The threads of a family, in least forms, rising."""
        return traced(self.scene.tent, self.pool(name))

    def numbers(self):
        """For each seam how often all threads and families cross it."""
        now = self.scene
        shares = [tally(now.tent, word) for word in now.threads.values()] + list(now.pools.values())
        return {seam: sum([share[seam] for share in shares]) for seam in now.tent.seams()}

    def fractions(self):
        """The fractions of the sewn seams."""
        return dict(self.scene.worths)

    def worth_of(self, name):
        """The worth of a thread."""
        return worth(self.scene.tent, self.scene.worths, self.thread(name))

    def same(self, one, other):
        """Whether two names are those of one thread, gone either way."""
        return alike(self.scene.tent, self.thread(one), self.thread(other))
