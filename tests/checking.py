"""Values that are near to right ones, values of all kinds, and what the tests do with them."""

import inspect
import random
import unittest
from itertools import combinations

from guardedwires.desk import Desk
from guardedwires.frames import frame, turned_frame
from guardedwires.guards import Guard, group
from guardedwires.machine import Machine
from tests.oracle import all_letters, by_letters, cross, is_independent

NAMES = ("independent", "product", "same", "apart", "made", "bar", "within", "gates", "sizes", "crossing", "signs",
         "other", "moved", "dressed", "guard", "contrary", "seen", "kept", "alike", "unlike", "barred", "may",
         "must not", "tied", "table", "spoils", "none", "mended", "turned", "sure", "reads", "falls", "parts", "all",
         "nothing", "part", "turns", "word", "flow", "stuck", "layers", "keeps", "out", "wires", "choice", "gate", "leave",
         "look", "lost", "told", "")


class Thing:
    """An object of a class that is none of the package's."""


THING = Thing()


def junk():
    """Values of all kinds, right ones of one or another function among them."""
    return [None, True, False, 0, 1, 2, 3, 6, 7, -1, 400, 999999999, "", " ", "I", "X", "XX", "ZI", "IZZ", "+", "-",
            "+X", "-Z", "+I", "+XX", "-ZI", "+ZZI", "+XXII", "XYZXYZ", "+XYZXYZ", "+XYZXYZX", "x", "+x", "h 0", "cx 0 1",
            "wires 1", "X" * 4000, (), (0,), (1,), (0, 1), (1, 0), (0, 0), (True,), (False, 1), (-1,), (0, 6), ("",),
            ("X",), ("XX", "ZZ"), ("+X",), ("+XX", "+ZZ"), ("h 0",), ("h 0", "x 9"), ("s 5",), (None,), ((),),
            (((),),), (("+X", "+Z"),), (("+X", "+Z", "+Y"),), ["+X", "+Z"], (["+X", "+Z"],), ("same",), ["same"],
            ("gates", ()), [], [()], [0], ["X"], {}, {"X": 0}, {0: "+X"}, THING, (THING,), Guard("wires 1"),
            Guard("wires 2\nguard +ZZ"), (Guard("wires 1"),), Machine(Guard("wires 1")), Desk("wires 1\nmachine"),
            deep_tuple(30), [[[["X"]]]], "h 0\n", "+X\n", "X\n", ("h 0",) * 401, ("X",) * 13, ("+X",) * 13]


def deep_tuple(many):
    value = ()
    for _ in range(many - 1):
        value = (value,)
    return value


def near_string(value):
    yield from [value + " ", value + "\n", value[:-1], value.lower(), [value], (value,), list(value), value + "I"]
    yield from [name for name in NAMES if name != value]
    if value[:1] in ("+", "-"):
        yield from ["+" + value[1:], "-" + value[1:], value[1:]]
    if value.strip("+-IXYZ") == "":
        yield "+" + value
        for place, sign in enumerate(value):
            if sign in "IXYZ":
                yield from [value[:place] + other + value[place + 1:] for other in "IXYZ" if other != sign]
    if " " in value and value.split(" ")[0] in ("h", "s", "x", "z", "cx", "cz", "swap"):
        yield from [other + value[value.index(" "):] for other in ("h", "s", "x", "z", "cx", "cz", "swap", "y", "cy")]
        yield from [value[:-1] + other for other in "0123456789"] + [value.replace(" ", "  "), " " + value]


def near_tuple(value):
    yield list(value)
    yield {k: part for k, part in enumerate(value)}
    yield value[::-1]
    yield value + value
    places = range(len(value)) if len(value) < 9 else [0, 1, len(value) - 2, len(value) - 1]
    for place in places:
        yield value[:place] + value[place + 1:]
        yield value[:place + 1] + value[place:]
        for part in near(value[place]):
            yield value[:place] + (part,) + value[place + 1:]
    for part in (None, (), 0, 1, 5, "X", "+X", "h 0", THING):
        yield value + (part,)
        yield (part,) + value


def near(value):
    """Values near to this one: a part more, less, twice, in another sequence, of another kind."""
    yield from [None, THING, (value,), [value], {0: value}]
    if type(value) is int:
        yield from [value + 1, value - 1, str(value), value == 1, bool(value), float(value)]
    elif type(value) is str:
        yield from near_string(value)
    elif type(value) is tuple:
        yield from near_tuple(value)


def some_near(value, most, seed=0):
    """At most so many of the values near to this one, spread over all."""
    every = list(near(value))
    return every if len(every) <= most else random.Random(seed).sample(every, most)


class Checking(unittest.TestCase):
    """Cases that compare what the package shows with what the document says."""

    def check_shows(self, shows, right, args, values):
        """That of each of these values is shown what is so, as a bool."""
        for value in values:
            self.assertIs(shows(*args, value), right(*args, value), (shows.__name__, args, value))

    def check_told(self, told, shows, right, args, others=(), most=10000):
        """That what is told is right, and of it, of values near to it and of others is shown what is so."""
        value = told(*args)
        self.assertTrue(right(*args, value), (told.__name__, args, value))
        self.assertEqual(value, told(*args))
        values = [value] + some_near(value, most)
        for other in others:
            values += [other] + some_near(other, most)
        self.check_shows(shows, right, args, values)
        return value

    def check_junk(self, shows, right, args):
        """That of values of all kinds is shown what is so."""
        self.check_shows(shows, right, args, junk() + [(name, part) for name in NAMES for part in junk()])

    def check_wrong(self, function, args, checks):
        """That of wrong values at each argument, and at two at once, the first one's error keeps the very value.

        checks: for each argument (error, is_right), or None where nothing is refused.
        """
        function(*args)
        every = junk()
        places = [place for place, check in enumerate(checks) if check is not None]
        wrong = {place: [value for value in every if not checks[place][1](value)] for place in places}
        for place in places:
            self.assertGreater(len(wrong[place]), 20)
            for value in wrong[place]:
                self.check_refused(function, args, {place: value}, checks[place][0])
        for one, other in combinations(places, 2):
            for number, value in enumerate(wrong[one]):
                its = wrong[other][number % len(wrong[other])]
                self.check_refused(function, args, {one: value, other: its}, checks[one][0])

    def check_refused(self, function, args, changes, error):
        """That the call is refused by this error, with the first value that is changed."""
        changed = [changes.get(place, value) for place, value in enumerate(args)]
        with self.assertRaises(error, msg=(function, changed)) as caught:
            function(*changed)
        self.assertIs(type(caught.exception), error)
        self.assertIs(caught.exception.value, changes[min(changes)])

    def check_names(self, function, names, args):
        """That the parameters have these names, and arguments may be passed by them."""
        self.assertEqual(list(inspect.signature(function).parameters), names.split(" "))
        self.assertEqual(function(**dict(zip(names.split(" "), args))), function(*args))


def random_letters(chance, n):
    return "".join(chance.choice("IXYZ") for _ in range(n))


def random_word(chance, n):
    return chance.choice("+-") + random_letters(chance, n)


def random_makers(chance, n, many):
    return tuple(random_letters(chance, n) for _ in range(many))


def random_gates(chance, n, many):
    one = ["h", "s", "x", "z"]
    gates = []
    for _ in range(many):
        name = chance.choice(one + ["cx", "cz", "swap"] if n > 1 else one)
        places = chance.sample(range(n), 1 if name in one else 2)
        gates.append(" ".join([name] + [str(place) for place in places]))
    return tuple(gates)


def random_base(chance, n, many):
    """So many words whose letters are independent."""
    words = []
    while len(words) < many:
        word = random_word(chance, n)
        if is_independent([other[1:] for other in words] + [word[1:]], n):
            words.append(word)
    return tuple(words)


def random_guard(chance, n, many):
    """A Guard of n wires with so many words."""
    words = []
    for _ in range(10000):
        if len(words) == many:
            break
        word = random_word(chance, n)
        if not any(cross(word[1:], other[1:]) for other in words):
            if is_independent([other[1:] for other in words] + [word[1:]], n):
                words.append(word)
    assert len(words) == many
    return Guard("\n".join([f"wires {n}"] + ["guard " + word for word in words]))


def some_guard(turn, most=4):
    """A Guard of one to so many wires; of all sizes, as turns go on."""
    n = 1 + turn % most
    return random_guard(random.Random(turn), n, (turn // most) % (n + 1))


def turned_pairs(chance, guard):
    """A frame of the guard that comes of one frame by some kept words."""
    parts = [word[1:] for pair in frame(guard) for word in pair]
    words = []
    for _ in range(12 if parts else 0):
        some = chance.sample(parts, chance.randrange(1, len(parts) + 1))
        words.append(chance.choice("+-") + by_letters(some, guard.wires))
    return turned_frame(guard, frame(guard), tuple(words))


def liked_pairs(chance, guard, pairs, contraries=False):
    """A frame whose words are alike to these beside the guard, some of them to their contraries, if that is wanted."""
    words = sorted(group(guard))
    told = [[product_word(chance.choice(words), word) for word in pair] for pair in pairs]
    if contraries:
        told = [[chance.choice("+-") + word[1:] for word in pair] for pair in told]
    return tuple(tuple(pair) for pair in told)


def guard_of(n, words):
    return Guard("\n".join([f"wires {n}"] + ["guard " + word for word in words]))


def all_guards(n):
    """Guards of n wires, one for each sequence of words that can stand in one."""
    found = [()]
    for words in found:
        for letters in sorted(all_letters(n)):
            if len(words) < n and not any(cross(letters, word[1:]) for word in words):
                if is_independent([word[1:] for word in words] + [letters], n):
                    found.append(words + ("+" + letters,))
                    found.append(words + ("-" + letters,))
    return [Guard("\n".join([f"wires {n}"] + ["guard " + word for word in words])) for words in found]


def multiplied(chance, guard):
    """A Guard of the same group, its words multiplied by one another and in another sequence."""
    words = list(guard.words)
    for _ in range(6):
        if len(words) > 1:
            one, other = chance.sample(range(len(words)), 2)
            words[one] = product_word(words[one], words[other])
    chance.shuffle(words)
    return Guard("\n".join([f"wires {guard.wires}"] + ["guard " + word for word in words]))


def product_word(one, other):
    from tests.oracle import word_of
    return word_of([one, other], len(one) - 1)


def opposite(chance, guard):
    """A Guard of the same letters, with some other signs."""
    words = [chance.choice("+-") + word[1:] for word in guard.words]
    return Guard("\n".join([f"wires {guard.wires}"] + ["guard " + word for word in words]))


def times_letters(one, other):
    return by_letters([one, other], len(one))
