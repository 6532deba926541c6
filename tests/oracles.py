"""Slow and plain answers to compare with, and loops at random (always the same ones)."""

import itertools
import random

from tests.samples import loop_of, work


def loops_at_random(seed, many, least_works, most_works, most_long=8):
    chance = random.Random(seed)
    for number in range(many):
        yield loop_at_random(chance, chance.randint(least_works, most_works), most_long)


def loop_at_random(chance, many_works, most_long=8, crews=None):
    if crews is None:
        crews = tuple([(chance.choice((1, 1, 2, 3)), chance.randint(1, 4)) for k in range(chance.choice((1, 1, 2, 3)))])
    works = []
    for own in range(many_works):
        sources = tuple([source_at_random(chance, own, many_works) for k in range(chance.randint(1, 3))])
        works.append(work(sources, crew=chance.randrange(len(crews)), long=chance.randint(1, most_long)))
    return loop_of(works, (0,), 0, crews)


def source_at_random(chance, own, many_works):
    if chance.random() < 0.1:
        return ("value", 1)
    back = chance.choice((0, 0, 0, 1, 1, 2, 3))
    if back == 0 and own > 0:
        return ("work", chance.randrange(own), 0)
    return ("work", chance.randrange(many_works), max(back, 1))


def plain_needs(loop):
    found = {(s[1], behind, s[2]) for behind, w in enumerate(loop[2]) for s in w[3] if s[0] == "work"}
    return sorted(found)


def keeps_needs(loop, gap, plan):
    """Asked of the beginnings themselves, of a round far from the first one."""
    for ahead, behind, back in plain_needs(loop):
        there = (10 - back) * gap + plan[ahead] + loop[2][ahead][1]
        if 10 * gap + plan[behind] < there:
            return False
    return True


def busy_at(loop, gap, plan, crew, time):
    """The machines of a crew that are busy at a time, of rounds without beginning and end."""
    busy = 0
    for begin, w in zip(plan, loop[2]):
        if w[0] == crew:
            span = loop[1][crew][1]
            for number in range((time - begin - span) // gap - 1, (time - begin) // gap + 2):
                if number * gap + begin <= time < number * gap + begin + span:
                    busy += 1
    return busy


def plain_wrong(loop, gap, plan):
    for need in plain_needs(loop):
        ahead, behind, back = need
        if plan[behind] + back * gap < plan[ahead] + loop[2][ahead][1]:
            return ("need", need)
    for crew, (many, busy) in enumerate(loop[1]):
        for rest in range(gap):
            # A time of this rest that is as late as the plan.
            if busy_at(loop, gap, plan, crew, 1000 * gap + rest) > many:
                return ("crew", crew, rest)
    return None


def all_rings(loop):
    """Every ring of the loop, each from each of its works on."""
    found = []
    grown = [[need] for need in plain_needs(loop)]
    while grown:
        found.extend([walk for walk in grown if walk[-1][1] == walk[0][0]])
        longer = []
        for walk in grown:
            used = [need[0] for need in walk]
            longer.extend([walk + [n] for n in plain_needs(loop) if n[0] == walk[-1][1] and n[0] not in used])
        grown = longer
    return found


def ring_bars(loop, gap, ring):
    return sum([loop[2][need[0]][1] for need in ring]) > gap * sum([need[2] for need in ring])


def crew_bars(loop, gap, crew):
    many, busy = loop[1][crew]
    return busy * [w[0] for w in loop[2]].count(crew) > gap * many


def has_stages(loop, gap, rests):
    """Whether works that begin at these rests can be moved by whole gaps so that every need is kept."""
    stages = [0] * len(rests)
    for step in range(len(rests) + 1):
        changed = False
        for ahead, behind, back in plain_needs(loop):
            late = rests[ahead] + loop[2][ahead][1] - back * gap - rests[behind]
            least = stages[ahead] + -(-late // gap)
            if stages[behind] < least:
                stages[behind] = least
                changed = True
        if not changed:
            return True
    return False


def is_crowded(loop, gap, rests):
    for crew, (many, busy) in enumerate(loop[1]):
        used = [0] * gap
        for rest, w in zip(rests, loop[2]):
            for later in range(busy if w[0] == crew else 0):
                used[(rest + later) % gap] += 1
        if max(used) > many:
            return True
    return False


def has_plan(loop, gap):
    """Tries every rest of every work, but the first one's."""
    for others in itertools.product(range(gap), repeat=len(loop[2]) - 1):
        rests = (0,) + others
        if not is_crowded(loop, gap, rests) and has_stages(loop, gap, rests):
            return True
    return False


def keeps_in_boxes(loop, gap, plan, need, many):
    """Whether each of many answers is still in its box when the need's work behind begins, time by time."""
    ahead, behind, back = need
    boxes = [None] * many
    rounds = many + 4 + (max(plan) + 8) // gap
    puts, takes = {}, {}
    for number in range(rounds):
        puts.setdefault(number * gap + plan[ahead] + loop[2][ahead][1], []).append(number)
        takes.setdefault((number + back) * gap + plan[behind], []).append(number)
    # Beyond the last one's answer no more are put, so that nothing could be told of later ones.
    for time in range(min(puts), max(puts) + 1):
        for number in puts.get(time, []):
            boxes[number % many] = number
        for number in takes.get(time, []):
            if boxes[number % many] != number:
                return False
    return True


def plain_boxes(loop, gap, plan):
    """For each work the least boxes that keep its answers."""
    told = []
    for own in range(len(loop[2])):
        many = 1
        while not all([keeps_in_boxes(loop, gap, plan, n, many) for n in plain_needs(loop) if n[0] == own]):
            many += 1
        told.append(many)
    return tuple(told)


WORDS = ("plus", "less", "times", "least", "greatest")


def dressed(chance, loop, streams=None):
    """The loop with other words, starts and outs, and with streams that some sources take from."""
    streams = chance.randint(0, 6) if streams is None else streams
    works = []
    for crew, long, doing, sources, starts in loop[2]:
        starts = tuple([chance.randint(0, 9972) for k in range(3)])
        sources = tuple([other_source(chance, source, streams) for source in sources])
        works.append((crew, long, chance.choice(WORDS), sources, starts))
    outs = sorted(chance.sample(range(len(works)), chance.randint(1, len(works))))
    return (streams, loop[1], tuple(works), tuple(outs))


def other_source(chance, source, streams):
    if streams > 0 and chance.random() < 0.3:
        return ("input", chance.randrange(streams))
    return ("value", chance.randint(0, 9972)) if source[0] == "value" else source


def dressed_loops(seed, many, least_works, most_works, most_long=8, streams=None):
    chance = random.Random(seed)
    for number in range(many):
        yield dressed(chance, loop_at_random(chance, chance.randint(least_works, most_works), most_long), streams)


def inputs_at_random(chance, streams, rounds):
    return [tuple([chance.randint(0, 9972) for k in range(streams)]) for number in range(rounds)]


def is_good(loop, gap, plan):
    return max(plan) <= 999 and keeps_needs(loop, gap, plan) and not is_crowded(loop, gap, [t % gap for t in plan])


def moved_plans(chance, loop, gap, plan, many):
    """Good plans that come of a good plan by beginning some works whole gaps later, and all of them later."""
    found = [plan]
    for number in range(many):
        other = tuple([begin + gap * chance.randrange(5) for begin in plan])
        late = chance.choice((0, 0, 1, gap, 2 * gap + 1))
        other = tuple([begin + late for begin in other])
        if is_good(loop, gap, other):
            found.append(other)
    return found


def plain_laid(gap, plan, rounds):
    """Asked at each time of each work and round whether it begins then."""
    if rounds == 0:
        return []
    last = (rounds - 1) * gap + max(plan)
    told = []
    for time in range(max(last + 1, rounds * gap)):
        told.append(tuple([(own, number) for own in range(len(plan)) for number in range(rounds)
                           if number * gap + plan[own] == time]))
    return told


def plain_run(loop, gap, plan, boxes, inputs):
    """What the machine tells, found backwards: of which round is what a box holds when it is looked into."""
    found = {}

    def there(own, number):
        return number * gap + plan[own] + loop[2][own][1]

    def held(own, box, time):
        rounds = [n for n in range(-3, len(inputs)) if n % boxes[own] == box and there(own, n) <= time]
        # At time 0 and later: of several that have been put in it is the latest one.
        if not rounds:
            return 0
        return loop[2][own][4][-1 - rounds[-1]] if rounds[-1] < 0 else answer(own, rounds[-1])

    def taken(source, number, time):
        if source[0] == "work":
            return held(source[1], (number - source[2]) % boxes[source[1]], time)
        return source[1] if source[0] == "value" else inputs[number][source[1]]

    def answer(own, number):
        if (own, number) not in found:
            values = [taken(source, number, number * gap + plan[own]) for source in loop[2][own][3]]
            found[own, number] = plain_outcome(loop[2][own][2], values)
        return found[own, number]

    # Every work of a round, in the order of the times, so that no answer is asked through many others.
    for time, own, number in sorted([(n * gap + plan[k], k, n) for k in range(len(plan)) for n in range(len(inputs))]):
        answer(own, number)
    return [tuple([found[own, number] for own in loop[3]]) for number in range(len(inputs))]


def plain_outcome(doing, values):
    if doing == "least":
        return sorted(values)[0]
    if doing == "greatest":
        return sorted(values)[-1]
    told = values[0]
    for value in values[1:]:
        told = {"plus": told + value, "less": told - value, "times": told * value}[doing]
    return told % 9973


def plain_text(thing):
    """A loop, or what is nearly one, written down."""
    streams, crews, works, outs = thing
    text = f"streams {streams}\n"
    for many, busy in crews:
        text += f"crew {many} {busy}\n"
    for crew, long, doing, sources, starts in works:
        text += f"work {crew} {long} {doing}"
        for source in sources:
            text += {"value": " {1}", "input": " i{1}", "work": " w{1}-{2}"}[source[0]].format(*source)
        text += " /" + "".join([f" {start}" for start in starts]) + "\n"
    return text + "outs" + "".join([f" {number}" for number in outs]) + "\n"
