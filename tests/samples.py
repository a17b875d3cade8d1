"""Machines, and things of every wrong kind, that several tests go over."""

from pilerun.reader import Reader


class Chance:
    """Numbers that look drawn but are the same in each run."""

    def __init__(self, seed):
        self.now = seed

    def below(self, most):
        self.now = (self.now * 6364136223846793005 + 1442695040888963407) % 2 ** 64
        return (self.now >> 33) % most


def drawn_rule(chance, many, signs):
    # Pushes of none come twice as often as the others: without them few spots come to the goal.
    push = "".join(signs[chance.below(len(signs))] for _ in range((0, 0, 1, 2)[chance.below(4)]))
    return (chance.below(many), signs[chance.below(len(signs))], chance.below(many), push)


def drawn_machine(chance, most_states=3, most_rules=8, signs="ab", most_goal=2):
    """A number of states, a list of rules and a goal."""
    many = 1 + chance.below(most_states)
    rules = [drawn_rule(chance, many, signs) for _ in range(1 + chance.below(most_rules))]
    goal = (chance.below(many), "".join(signs[chance.below(len(signs))] for _ in range(chance.below(most_goal + 1))))
    return many, rules, goal


def small_machines(count, seed=1, **limits):
    chance = Chance(seed)
    return [drawn_machine(chance, **limits) for _ in range(count)]


def chosen_machines():
    """Machines at the edges that the document names."""
    wheel = [(0, "a", 1, "ab"), (1, "a", 2, ""), (2, "b", 3, "b"), (3, "b", 4, "ba"), (4, "b", 0, "")]
    twelve = [(0, "a", 0, "bb"), (0, "b", 1, ""), (0, "a", 1, "b"), (1, "b", 0, "ab"), (1, "a", 1, ""),
              (1, "b", 1, "a"), (0, "b", 1, ""), (1, "a", 0, "ba"), (0, "a", 0, "bb"), (0, "b", 0, "a"),
              (1, "b", 1, ""), (0, "a", 1, "")]
    return [
        (1, [], (0, "")),
        (1, [], (0, "aabb")),
        (5, [], (4, "ab")),
        (1, [(0, "a", 0, "")], (0, "")),
        (1, [(0, "a", 0, "a")], (0, "a")),
        (1, [(0, "a", 0, "aa")], (0, "aaaa")),
        (1, [(0, "a", 0, "aa"), (0, "a", 0, "")], (0, "aab")),
        (2, [(0, "a", 1, "ab")] * 3 + [(1, "a", 1, "")] * 2, (1, "b")),
        (5, wheel, (0, "")),
        (5, wheel, (2, "bb")),
        (2, twelve, (1, "")),
        (2, twelve, (0, "baab")),
    ]


def all_machines(count, seed=1, **limits):
    return chosen_machines() + small_machines(count, seed, **limits)


def told(reader):
    """All that a reader tells of itself."""
    arrows = reader.arrows()
    return {
        "rules": reader.rules(),
        "rooms": reader.rooms(),
        "end": reader.end(),
        "arrows": [(arrow, reader.weight(arrow), reader.reason(arrow)) for arrow in arrows],
    }


def told_of(reader, spot):
    """All that a reader tells of a spot."""
    least = reader.least(spot)
    if least is None:
        return None
    return least, reader.way(spot), reader.run(spot)


def popping():
    """A reader from whose spots each sign takes one step."""
    return Reader(1, [(0, "a", 0, "")], (0, ""))


class Text(str):
    pass


class Number(int):
    pass


class Row(list):
    pass


class Pair(tuple):
    pass


class Shy:
    """Fails over whatever is done with it."""

    def __eq__(self, other):
        raise RuntimeError("compared")

    def __hash__(self):
        raise RuntimeError("hashed")

    def __len__(self):
        raise RuntimeError("measured")

    def __iter__(self):
        raise RuntimeError("iterated")

    def __getitem__(self, at):
        raise RuntimeError("indexed")

    def __repr__(self):
        raise RuntimeError("shown")

    def __bool__(self):
        raise RuntimeError("tested")


class Alike(type):
    """The kind of a class that says of itself that it is each other class."""

    def __eq__(cls, other):
        return True

    def __ne__(cls, other):
        return False

    def __hash__(cls):
        return 0


class Untold(type):
    """The kind of a class that fails over being compared."""

    def __eq__(cls, other):
        raise RuntimeError("compared")

    def __ne__(cls, other):
        raise RuntimeError("compared")

    def __hash__(cls):
        raise RuntimeError("hashed")


def odd(base, *handed):
    """Things of classes made from the base which say on their own how they compare with other classes."""
    return [kind("Odd", (base,), {})(*handed) for kind in (Alike, Untold)]


def odd_things():
    """Such things of every base, each of them what is wanted somewhere but for its class."""
    rule = (0, "a", 0, "")
    things = odd(object) + odd(int, 1) + odd(str, "a") + odd(list) + odd(list, [rule])
    return things + odd(tuple, rule) + odd(tuple, rule[:3]) + odd(tuple, rule[:2])


def wrong_things():
    """Things that are no rule, no spot, no arrow, no number from 1 to 5 and no list of rules."""
    return [
        None, True, False, 0, -1, 6, 10 ** 30, 1.0, 2.5, float("nan"), 1j, "", "a", "ab", b"a", (), ((),), [[]],
        [None], {}, {0: "a"}, set(), frozenset(), object(), int, len, range(3), Shy(), (Shy(), Shy()), [Shy()],
        (Shy(), Shy(), Shy()), (Shy(), Shy(), Shy(), Shy()), bytearray(b"a"), iter([]), lambda: 0, "0a0", "0a0b",
    ] + odd_things()


def wrong_numbers(many):
    """Things that are no state and no room where there are so many."""
    return [True, False, -1, many, many + 1, 10 ** 30, -10 ** 30, 0.0, 1.0, None, "", "0", b"0", (), (0,), [], [0], {},
            object(), Shy()] + odd(object) + odd(int, 0)


def wrong_signs():
    """Things that are no sign."""
    return ["", "ab", "aa", "A", "Z", "0", " ", "`", "{", "-", "\n", "a\n", "\xe4", "\xaa", "\u0430", "\uff41",
            "\u0131", "\ud800", "\x00", None, True, 0, 97, 1.5, b"a", ["a"], ("a",), {"a": 1}, object(), Shy()
            ] + odd(object) + odd(str, "a")


def wrong_piles():
    """Things that are no text of signs."""
    return ["A", "aB", "a b", "ab ", " ", "\n", "a\n", "a1", "\xe4", "a\xe4", "\u0430", "\ud800", "a-", "`", "{",
            "\x00", None, True, False, 0, 1, 2.5, b"", b"ab", [], ["a"], (), ("a", "b"), {}, {"a": 1}, object(), Shy()
            ] + odd(object) + odd(str, "a")
