"""How each call stands in the list that is handed in, and the ranges that are told of its numbers."""

# For each call the least and the greatest of each plain argument.
PLAIN_RANGES = {
    0: ((1, 7), (1, 8), (0, 1000000), (0, 1000000), (0, 1000000)),
    1: ((0, 6), (0, 7)),
    2: ((0, 6), (0, 7), (0, 1000000000), (0, 1000000000)),
    3: ((0, 6), (0, 7), (0, 2)),
    4: ((1, 7), (1, 7), (1, 7)),
    5: ((0, 1000000),),
    6: (),
    7: ((0, 7),),
    8: (),
    9: (),
    10: (),
    11: (),
    12: (),
    13: (),
    14: (),
    15: ((0, 127),),
    16: ((0, 6), (0, 7), (1, 2)),
    17: (),
}

# For each list of a call the fewest and the most numbers that it has, then the least and the greatest of them.
LIST_RANGES = {
    0: ((3, 3, 1, 7), (0, 56, 0, 1000000000), (0, 56, 0, 1000000000)),
    8: ((0, 8, 0, 127),),
    11: ((0, 8, 0, 127),),
    12: ((0, 8, 0, 127),),
    13: ((0, 8, 0, 127),),
    14: ((0, 500, 0, 500),),
}


# Each call as its place, its plain arguments and its lists. Numbers out of range are read like others:
# only how many there are says where the next call begins.
def read_calls(numbers):
    calls = []
    at = 0
    while at < len(numbers):
        place = numbers[at]
        at += 1
        plain = numbers[at:at + len(PLAIN_RANGES[place])]
        at += len(plain)
        lists = []
        for form in LIST_RANGES.get(place, ()):
            length = numbers[at]
            lists.append(numbers[at + 1:at + 1 + length])
            at += 1 + length
        calls.append((place, plain, lists))
    return calls


def is_in_range(place, plain, lists):
    for number, bounds in zip(plain, PLAIN_RANGES[place]):
        if not are_between([number], bounds[0], bounds[1]):
            return False
    for numbers, form in zip(lists, LIST_RANGES.get(place, ())):
        if not are_between([len(numbers)], form[0], form[1]) or not are_between(numbers, form[2], form[3]):
            return False
    return True


def are_between(numbers, least, greatest):
    return all([least <= number <= greatest for number in numbers])
