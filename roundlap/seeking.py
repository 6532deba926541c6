"""A good plan for a gap, if there is one, and the shortest gap.

Only works of crews that can be crowded are sought for: at which rest by the gap each begins. The search keeps the
rests that are set so far, by work, and apart: how much later than each work each other one begins at least. Works on
one ring are knotted, bounded both ways. What is not knotted can be moved by whole gaps afterwards, as needs ask for it.

Few rests are tried, and no plan is missed: of a good plan let all works that are not set begin sooner by 1, again and
again. It stays good until one of them begins as soon as the needs from a set one allow, or when the machine of a set
one of its crew, of whatever round, is just done. There this one can be set, and the others be moved on.
"""

from roundlap.bars import barring_crew, barring_ring, crew_gap, ring_gap
from roundlap.loops import checked, needs
from roundlap.plans import checked_gap, plainly

# More than any two knotted works can be apart.
FAR = 100000


def farther(apart, one, other, distance):
    # All that follows when the other is this much later than the one, or None if it can't be.
    if distance <= apart[one][other]:
        return apart
    if distance + apart[other][one] > 0:
        return None
    rows = []
    for row in apart:
        begin = row[one] + distance
        rows.append([max(known, begin + more) for known, more in zip(row, apart[other])])
    return rows


def unbounded(many):
    rows = []
    for one in range(many):
        row = [-FAR] * many
        row[one] = 0
        rows.append(row)
    return rows


def apart_by_needs(loop, gap):
    apart = unbounded(len(loop[2]))
    for ahead, behind, back in needs(loop):
        apart = farther(apart, ahead, behind, loop[2][ahead][1] - back * gap)
        if apart is None:
            return None
    return apart


def are_knotted(apart, one, other):
    return apart[one][other] + apart[other][one] > -FAR // 2


def next_with_rest(rest, low, gap):
    return low + (rest - low) % gap


class Search:
    def __init__(self, loop, gap):
        self.gap = gap
        self.crewmates = {}
        self.machines = {}
        self.busy = {}
        for crew, machines in enumerate(loop[1]):
            members = [number for number, work in enumerate(loop[2]) if work[0] == crew]
            # A work has a machine at every rest for each whole gap that it is busy: only what is over can be moved.
            free = machines[0] - machines[1] // gap * len(members)
            over = machines[1] % gap
            if over > 0 and len(members) > free:
                for number in members:
                    self.crewmates[number] = members
                    self.machines[number] = free
                    self.busy[number] = over

    def has_machine(self, rests, work, rest):
        busy = self.busy[work]
        begins = [rests[mate] for mate in self.crewmates[work] if mate in rests]
        for moment in range(rest, rest + busy):
            if len([begin for begin in begins if (moment - begin) % self.gap < busy]) >= self.machines[work]:
                return False
        return True

    def is_near(self, rests, apart, work, rest):
        for other in rests:
            if next_with_rest(rest - rests[other], apart[other][work], self.gap) > -apart[work][other]:
                return False
        return True

    def possible(self, rests, apart, failed, tries):
        kept = []
        for work, rest in tries:
            if (work, rest) not in failed and self.has_machine(rests, work, rest):
                if self.is_near(rests, apart, work, rest):
                    kept.append((work, rest))
        return kept

    def soonest(self, rests, apart, work):
        # Where it can come to a stop when it is moved towards the set ones.
        begins = [rests[mate] + self.busy[work] for mate in self.crewmates[work] if mate in rests]
        begins.extend([rests[other] + apart[other][work] for other in rests if are_knotted(apart, other, work)])
        return [(work, rest) for rest in sorted(set([begin % self.gap for begin in begins]))]

    def bounded(self, rests, apart, work):
        # Every rest that the needs leave to it, or None if they leave it all of them.
        fewest = self.gap
        found = None
        for other in rests:
            many = 1 - apart[work][other] - apart[other][work]
            if many < fewest:
                fewest = many
                first = rests[other] + apart[other][work]
                found = [(work, (first + more) % self.gap) for more in range(many)]
        return found

    def fewest_possible(self, rests, apart, failed, left, most):
        # Of the tries for one work alone the fewest, if they are fewer than those that are at hand.
        fewest = most
        for work in left:
            tries = self.bounded(rests, apart, work)
            if tries is not None:
                tries = self.possible(rests, apart, failed, tries)
                if len(tries) < len(fewest):
                    fewest = tries
        return fewest

    def looseness(self, apart, left, anchor):
        others = [work for work in left if work != anchor]
        most = [(anchor, rest) for rest in range(self.gap)]
        return len(self.fewest_possible({anchor: 0}, apart, {}, others, most))

    def next_tries(self, rests, apart, failed):
        left = [work for work in self.busy if work not in rests]
        tries = []
        for work in left:
            tries.extend(self.soonest(rests, apart, work))
        if tries == []:
            # The set ones are nothing to those that are left, so these can be moved together: any rest does for one.
            return [(min(left, key=lambda anchor: self.looseness(apart, left, anchor)), 0)]
        tries = self.possible(rests, apart, failed, tries)
        return self.fewest_possible(rests, apart, failed, left, tries)

    def fixed(self, rests, apart, work, rest):
        # Both rests make a distance go by whole gaps. Where each set one is near enough this can't fail: a way round
        # through two of them is no longer than through one, for theirs goes by whole gaps already.
        for other in rests:
            if are_knotted(apart, other, work):
                ahead = next_with_rest(rest - rests[other], apart[other][work], self.gap)
                apart = farther(apart, other, work, ahead)
                behind = next_with_rest(rests[other] - rest, apart[work][other], self.gap)
                apart = farther(apart, work, other, behind)
        return apart

    def completed(self, rests, apart, failed):
        if len(rests) == len(self.busy):
            return rests
        # What fails with the set ones fails with more of them too, so it need not be tried further in.
        failed = dict(failed)
        for work, rest in self.next_tries(rests, apart, failed):
            more = dict(rests)
            more[work] = rest
            found = self.completed(more, self.fixed(rests, apart, work, rest), failed)
            if found is not None:
                return found
            failed[(work, rest)] = True
        return None


def moved_on(loop, gap, rests):
    # Below the gap of going plainly, at most 63, a work waits less than a gap beyond each of at most 7 answers of 8
    # times or less: no time is above 62 + 7 * 70.
    plan = [rests.get(work, 0) for work in range(len(loop[2]))]
    changed = True
    while changed:
        changed = False
        for ahead, behind, back in needs(loop):
            answered = plan[ahead] + loop[2][ahead][1] - back * gap
            if plan[behind] < answered:
                plan[behind] = next_with_rest(rests[behind], answered, gap) if behind in rests else answered
                changed = True
    return tuple(plan)


def found_plan(loop, gap):
    plain = plainly(loop)
    if gap >= plain[0]:
        # A longer gap only leaves more time between the rounds.
        return plain[1]
    apart = apart_by_needs(loop, gap)
    if apart is None or barring_crew(loop, gap) is not None:
        return None
    rests = Search(loop, gap).completed({}, apart, {})
    return None if rests is None else moved_on(loop, gap, rests)


def a_plan(loop, gap):
    checked(loop)
    return found_plan(loop, checked_gap(gap))


def why_none(loop, gap):
    if gap == 0:
        return ("first",)
    barring = barring_ring(loop, gap)
    if barring is not None:
        return ("ring", barring)
    crew = barring_crew(loop, gap)
    if crew is not None:
        return ("crew", crew)
    return ("tried",)


def shortest(loop):
    gap = max(ring_gap(loop), crew_gap(loop))
    while found_plan(loop, gap) is None:
        gap = gap + 1
    return (gap, why_none(loop, gap - 1))
