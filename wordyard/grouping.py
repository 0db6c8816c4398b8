"""Tells from which states of a machine on the same words are had, and from which all words of another state."""


def sources_by(machine, letter):
    sources = [[] for state in machine]
    for number, state in enumerate(machine):
        sources[state[1][letter]].append(number)
    return sources


class Groups:
    # Two states lie in different groups as soon as some word is known to tell them apart. At first
    # that is the empty word alone: the states that are not good make group 0, the good ones group 1.
    def __init__(self, machine):
        self.sources = [sources_by(machine, letter) for letter in range(len(machine[0][1]))]
        self.group_of = [state[0] for state in machine]
        self.members = [{}, {}]
        for number, state in enumerate(machine):
            self.members[state[0]][number] = True
        self.waiting = [0, 1]
        self.waits = [True, True]

    def let_wait(self, group):
        self.waiting.append(group)
        self.waits[group] = True

    def set_apart(self, group, states):
        rest = self.members[group]
        if len(states) == len(rest):
            return
        fresh = len(self.members)
        self.members.append({})
        self.waits.append(False)
        for state in states:
            rest.pop(state)
            self.members[fresh][state] = True
            self.group_of[state] = fresh
        # If the whole group has been worked off, one half of it tells as much as both do, and the
        # smaller half is the shorter work; if it still waits, its rest waits on in its place.
        if self.waits[group] or len(states) <= len(rest):
            self.let_wait(fresh)
        else:
            self.let_wait(group)

    def set_apart_by(self, targets, letter):
        # States of one group of which only some step into the targets have different words.
        stepping = {}
        for target in targets:
            for state in self.sources[letter][target]:
                stepping.setdefault(self.group_of[state], []).append(state)
        for group, states in stepping.items():
            self.set_apart(group, states)

    def settle(self):
        while len(self.waiting) > 0:
            group = self.waiting.pop()
            self.waits[group] = False
            # A copy, for the group itself may be parted by one letter ahead of the next.
            targets = list(self.members[group])
            for letter in range(len(self.sources)):
                self.set_apart_by(targets, letter)


def firsts_alike(machine):
    # Of the states that have the same words the first one stands for all.
    groups = Groups(machine)
    groups.settle()
    firsts = {}
    for state, group in enumerate(groups.group_of):
        firsts.setdefault(group, state)
    return [firsts[group] for group in groups.group_of]


class Covers:
    # A pair of states is covered if each word that is had from the first on is had from the second
    # on too. Pairs are asked one by one as they come up, since most of them never do.
    def __init__(self, machine):
        self.machine = machine
        self.known = {}

    def is_refuted(self, pair):
        return self.known.get(pair) is False or self.machine[pair[0]][0] > self.machine[pair[1]][0]

    def steps_to_ask(self, pair):
        steps = list(zip(self.machine[pair[0]][1], self.machine[pair[1]][1]))
        return [step for step in steps if step[0] != step[1] and self.known.get(step) is not True]

    def refute(self, pair, comings):
        # The word that tells against this pair tells, some letters longer, against those it was come to by.
        while pair is not None:
            self.known[pair] = False
            pair = comings[pair]

    def find_out(self, start):
        comings = {start: None}
        pairs = [start]
        place = 0
        while place < len(pairs):
            pair = pairs[place]
            if self.is_refuted(pair):
                self.refute(pair, comings)
                return
            for step in self.steps_to_ask(pair):
                if step not in comings:
                    comings[step] = pair
                    pairs.append(step)
            place += 1
        # All that can be come to has been gone through, and no word tells against any of it.
        for pair in pairs:
            self.known[pair] = True

    def covered(self, pair):
        if pair not in self.known:
            self.find_out(pair)
        return self.known[pair]
