"""The tongue: tolls as texts and as trees, and the machines of trees."""

from onepurse.errors import BadLetters, BadText, BadTree, BadWord, Full
from onepurse.machines import MOST_ROOMS, Machine, are_letters, is_letter
from onepurse.marks import DEEDS
from onepurse.words import SMALL_LETTERS

DEED_OF_SIGN = {"!": "cent", ".": "fill", "$": "coin", ":": "brim"}
SIGN_OF_DEED = {"keep": "", "cent": "!", "fill": ".", "coin": "$", "brim": ":"}
KIND_OF_SIGN = {"*": "many", "?": "maybe"}
SIGN_OF_KIND = {"many": "*", "maybe": "?"}

# How many things the tuple of each kind of tree has.
LENGTHS = {"letter": 3, "nothing": 1, "row": 3, "either": 3, "many": 2, "maybe": 2}

LONGEST_READ = 6


def joined(kind, one, other):
    """The tree of two trees, the first of which may be none yet."""
    return other if one is None else (kind, one, other)


class Level:
    """What was read so far within one bracket: the rows ahead of the last `|`, the row behind it, its last tree."""

    def __init__(self):
        self.either = None
        self.row = None
        self.last = None

    def put(self, tree):
        """Takes one more tree into the row; the last one stays apart, as signs behind it may still change it."""
        if self.last is not None:
            self.row = joined("row", self.row, self.last)
        self.last = tree

    def whole(self):
        """The tree of all that was read."""
        return joined("either", self.either, joined("row", self.row, self.last))

    def next_row(self):
        """Begins another row."""
        self.either = self.whole()
        self.row = None
        self.last = None


def can_stand(sign, ahead, levels):
    """Whether a sign can stand behind the sign ahead of it, at the innermost of some levels."""
    if sign in DEED_OF_SIGN:
        return ahead in SMALL_LETTERS and ahead != ""
    if sign in KIND_OF_SIGN or sign == "|":
        return levels[-1].last is not None
    if sign == ")":
        return levels[-1].last is not None and len(levels) > 1
    return sign in SMALL_LETTERS or sign in "-("


def take_sign(sign, levels):
    """Takes in a sign that can stand where it does."""
    level = levels[-1]
    if sign == "(":
        levels.append(Level())
    elif sign == ")":
        levels.pop()
        levels[-1].put(level.whole())
    elif sign == "|":
        level.next_row()
    elif sign == "-":
        level.put(("nothing",))
    elif sign in KIND_OF_SIGN:
        level.last = (KIND_OF_SIGN[sign], level.last)
    elif sign in DEED_OF_SIGN:
        level.last = ("letter", level.last[1], DEED_OF_SIGN[sign])
    else:
        level.put(("letter", sign, "keep"))


def read_tolls(text):
    """The tree of a text."""
    levels = [Level()]
    ahead = ""
    for at, sign in enumerate(text):
        if not can_stand(sign, ahead, levels):
            raise BadText(at)
        take_sign(sign, levels)
        ahead = sign
    if len(levels) > 1 or levels[0].last is None:
        raise BadText(len(text))
    return levels[0].whole()


def is_form(tree):
    """Whether a tuple has the form of a tree, whatever the trees in it are."""
    if not isinstance(tree, tuple) or len(tree) == 0 or not isinstance(tree[0], str):
        return False
    if len(tree) != LENGTHS.get(tree[0], 0):
        return False
    if tree[0] != "letter":
        return True
    return isinstance(tree[1], str) and is_letter(tree[1], SMALL_LETTERS) and tree[2] in DEEDS


def trees_within(tree):
    """All trees in a tree, itself too, each behind those in it, letters as they stand in the text.

    They wait in a list instead of by recursion, as a text may be read as a tree of great depth.
    """
    found = []
    waiting = [tree]
    while waiting:
        node = waiting.pop()
        if not is_form(node):
            raise BadTree()
        found.append(node)
        if node[0] != "letter":
            waiting.extend(node[1:])
    return found[::-1]


def bracketed(written, kinds):
    """The text of a pair (text, kind of tree), in brackets if its kind is one of some."""
    text, kind = written
    return f"({text})" if kind in kinds else text


def text_of(kind, parts):
    """The text of a tree of this kind, of the pairs (text, kind) of the trees in it."""
    if kind == "nothing":
        return "-"
    if kind == "row":
        return bracketed(parts[0], ("either",)) + bracketed(parts[1], ("row", "either"))
    if kind == "either":
        return bracketed(parts[0], ()) + "|" + bracketed(parts[1], ("either",))
    return bracketed(parts[0], ("row", "either")) + SIGN_OF_KIND[kind]


def tolls_text(tree):
    """The text that is read as a tree."""
    done = []
    for node in trees_within(tree):
        kind = node[0]
        if kind == "letter":
            done.append((node[1] + SIGN_OF_DEED[node[2]], kind))
        else:
            start = len(done) - len(node) + 1
            parts = done[start:]
            del done[start:]
            done.append((text_of(kind, parts), kind))
    return done[0][0]


class Places:
    """The places of trees, and which of them may come right behind which; the place 0 stands ahead of all."""

    def __init__(self):
        self.letter_of = [""]
        self.deed_of = ["keep"]
        self.behind_of = [{}]
        self.ends = []

    def of_letter(self, letter, deed):
        """One place more. Told of each tree: whether it reads the word of no letters, its first and its last places."""
        place = len(self.letter_of)
        self.letter_of.append(letter)
        self.deed_of.append(deed)
        self.behind_of.append({})
        return (False, [place], [place])

    def link(self, ends, starts):
        """Lets each of the starts come right behind each of the ends."""
        for end in ends:
            for start in starts:
                self.behind_of[end][start] = True

    def of_row(self, one, other):
        """What is told of a row."""
        self.link(one[2], other[1])
        firsts = one[1] + other[1] if one[0] else one[1]
        lasts = one[2] + other[2] if other[0] else other[2]
        return (one[0] and other[0], firsts, lasts)

    def of_many(self, one):
        """What is told of a many."""
        self.link(one[2], one[1])
        return (True, one[1], one[2])

    def close(self, one):
        """Takes what is told of the whole tree."""
        self.link([0], one[1])
        self.ends = [0] + one[2] if one[0] else one[2]


def places_of(nodes):
    """The places of a tree, of the list of all trees in it."""
    places = Places()
    done = []
    for node in nodes:
        kind = node[0]
        if kind == "letter":
            done.append(places.of_letter(node[1], node[2]))
        elif kind == "nothing":
            done.append((True, [], []))
        elif kind == "many":
            done.append(places.of_many(done.pop()))
        elif kind == "maybe":
            inner = done.pop()
            done.append((True, inner[1], inner[2]))
        else:
            other, one = done.pop(), done.pop()
            either = (one[0] or other[0], one[1] + other[1], one[2] + other[2])
            done.append(places.of_row(one, other) if kind == "row" else either)
    places.close(done[0])
    return places


def machine_of(tree, letters):
    """The machine of a tree."""
    nodes = trees_within(tree)
    used = [node[1] for node in nodes if node[0] == "letter"]
    if not are_letters(letters) or not all([letter in letters for letter in used]):
        raise BadLetters()
    if len(used) >= MOST_ROOMS:
        raise Full()
    places = places_of(nodes)
    arrows = [(start, places.letter_of[end], places.deed_of[end], end)
              for start, behind in enumerate(places.behind_of) for end in behind]
    return Machine(len(used) + 1, letters, arrows, firsts=[0], lasts=places.ends)


def readings(tree, word):
    """All readings of a word by a tree, rising."""
    places = places_of(trees_within(tree))
    if len(word) > LONGEST_READ or not all([letter in SMALL_LETTERS for letter in word]):
        raise BadWord()
    rows = {(0, ()): True}
    for letter in word:
        rows = {(end, deeds + (places.deed_of[end],)): True for place, deeds in rows
                for end in places.behind_of[place] if places.letter_of[end] == letter}
    return sorted(set([deeds for place, deeds in rows if place in places.ends]))
