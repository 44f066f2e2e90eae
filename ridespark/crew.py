"""How a crew parts its work best."""


# A row of pairs lies flat, one pair behind another.
def pairs_of(row):
    return [(row[at], row[at + 1]) for at in range(0, len(row), 2)]


def has_skill(skills, skill):
    return (skills >> skill) & 1 == 1


def people_with(crew, skill):
    return [who for who, skills in enumerate(crew, start=1) if has_skill(skills, skill)]


def longer_ways(ways, people):
    longer = []
    for way in ways:
        longer.extend([way + [who] for who in people])
    return longer


# A way is who does each job. Those that give earlier jobs to lesser numbers stand first.
def all_ways(crew, jobs):
    ways = [[]]
    for job in jobs:
        ways = longer_ways(ways, people_with(crew, job[1]))
    return ways


def time_taken(way, crew, jobs):
    minutes_of = [0] * len(crew)
    for who, job in zip(way, jobs):
        minutes_of[who - 1] += job[0]
    return max(minutes_of)


# None if there's no way.
def best_way(crew, jobs):
    best = None
    least = 0
    for way in all_ways(crew, jobs):
        taken = time_taken(way, crew, jobs)
        # Only a quicker one is better: of those that take the same time, the first is wanted.
        if best is None or taken < least:
            best = way
            least = taken
    return best
