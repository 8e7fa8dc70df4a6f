"""Houses: hands that note their signs and send letters, and a referee that judges rounds."""

from fardials.errors import InvalidLog, InvalidWorld
from fardials.plans import check_plan
from fardials.shapes import check_shape, context_index, contexts, outcome_index, outcomes


def sweep(shape, draws):
    """The rounds (draw, context) with all contexts in order for each draw in order."""
    return [(draw, context) for draw in range(len(draws)) for context in contexts(shape)]


class World:
    """Houses with a log of notes (round, sign) each, letters (hand, round, sign) and a referee."""

    def __init__(self, shape, draws, schedule):
        check_shape(shape)
        for plan in draws:
            check_plan(shape, plan)
        rounds = tuple([(draw, context) for draw, context in schedule])
        check_rounds(shape, len(draws), rounds)
        self.shape = shape
        self.plans_shared = tuple(draws)
        self.schedule = rounds
        self._logs = [[] for _ in shape]
        self._said = [0 for _ in shape]
        self._letters = []
        self._known = {}

    @classmethod
    def rebuilt(cls, shape, draws, schedule, logs):
        """The world with these logs, in which no hand has said anything."""
        world = cls(shape, draws, schedule)
        for hand, log in enumerate(logs):
            for at, (number, sign) in enumerate(log):
                if not world._accepts(hand, number, sign):
                    raise InvalidLog(hand, at)
                world.ask(hand, number)
        return world

    def _accepts(self, hand, number, sign):
        """Whether this is the number of a round without a note of the hand, and the hand's sign in it."""
        return (0 <= number < len(self.schedule) and not self._has_note(hand, number)
                and sign == self._sign(hand, number))

    def _has_note(self, hand, number):
        """Whether the log of the hand has a note of the round."""
        return number in [noted for noted, sign in self._logs[hand]]

    def _sign(self, hand, number):
        """The sign of the hand in the round."""
        draw, context = self.schedule[number]
        return self.plans_shared[draw][hand][context[hand]]

    def ask(self, hand, number):
        """The sign of the hand in the round, of which it makes a note if it has none."""
        sign = self._sign(hand, number)
        if not self._has_note(hand, number):
            self._logs[hand].append((number, sign))
        return sign

    def say(self, hand):
        """Sends a letter for each note that the hand has not said, and returns their number."""
        log = self._logs[hand]
        notes = log[self._said[hand]:]
        self._letters.extend([(hand, number, sign) for number, sign in notes])
        self._said[hand] = len(log)
        return len(notes)

    def fall(self, hand):
        """Makes the hand forget what it has said."""
        self._said[hand] = 0

    def carry(self, number):
        """Brings a letter to the referee, and returns whether it told the referee something new."""
        if not 0 <= number < len(self._letters):
            return False
        hand, at, sign = self._letters[number]
        if (hand, at) in self._known:
            return False
        self._known[(hand, at)] = sign
        return True

    def __contains__(self, x):
        """Whether the referee knows a sign for the pair (hand, round) x."""
        return x in self._known

    def outcome(self, number):
        """The signs of all hands in a judged round, or None."""
        pairs = [(hand, number) for hand in range(len(self.shape))]
        if not all([pair in self._known for pair in pairs]):
            return None
        return tuple([self._known[pair] for pair in pairs])

    def judged(self):
        """Yields the judged rounds, pairs (number, outcome), in order."""
        for number in range(len(self.schedule)):
            signs = self.outcome(number)
            if signs is not None:
                yield (number, signs)

    @property
    def finished(self):
        """Whether all rounds are judged."""
        return all([self.outcome(number) is not None for number in range(len(self.schedule))])

    def tally(self):
        """For each context and outcome, how many judged rounds have them."""
        counts = [[0] * len(outcomes(self.shape)) for _ in contexts(self.shape)]
        for number, signs in self.judged():
            _, context = self.schedule[number]
            row = counts[context_index(self.shape, context)]
            column = outcome_index(self.shape, signs)
            row[column] = row[column] + 1
        return tuple([tuple(row) for row in counts])

    def log(self, hand):
        """The list of the notes of the hand."""
        return list(self._logs[hand])

    def sent(self):
        """The list of all letters."""
        return list(self._letters)

    def __call__(self, deed):
        """Does a deed, a tuple of the name of a method and its arguments."""
        if deed[0] == "ask":
            return self.ask(deed[1], deed[2])
        if deed[0] == "say":
            return self.say(deed[1])
        if deed[0] == "fall":
            return self.fall(deed[1])
        return self.carry(deed[1])


def check_rounds(shape, many, schedule):
    """Raises InvalidWorld unless each round has one of this many draws and a context of the shape."""
    known = contexts(shape)
    if not all([0 <= draw < many and context in known for draw, context in schedule]):
        raise InvalidWorld("a round is a draw and a context that are there")


def perform(world, deeds):
    """Calls the world with each of the deeds, in order."""
    for deed in deeds:
        world(deed)
