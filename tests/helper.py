"""What the document says told once more in another way than the program tells it, and texts and machines to try."""

import itertools
import random
import re

from nearerwork.machinetexts import read_machine, shown_machine
from nearerwork.tietexts import read_tie

OWN_WORDS = "name from to at keep deed when do any and or not yes tie step for none falls".split()
SIGNS = "+ - * ( ) [ ] < <= = != ; ,".split()
VOCABULARY = OWN_WORDS + SIGNS + ["0", "7", "x", "y", "@x"]

NAME = "(?!(?:" + "|".join(OWN_WORDS) + ")(?: |$))[a-z]{1,8}"
NUMBER = "(?:0|[1-9][0-9]?)"


def sum_pattern(depth):
    pattern = f"(?:{NUMBER}|@?{NAME})"
    leaf = pattern
    for step in range(depth):
        pattern = rf"(?:{leaf}|\( {pattern} [-+*] {pattern} \))"
    return pattern


# Deep enough for the texts of the tests, and for one bracket more.
SUM = sum_pattern(3)


def saying_pattern(depth):
    leaf = f"(?:yes|{SUM} (?:<|<=|=|!=) {SUM})"
    pattern = leaf
    for step in range(depth):
        pattern = rf"(?:{leaf}|\[ {pattern} (?:and|or) {pattern} \]|\[ not {pattern} \])"
    return pattern


SAYING = saying_pattern(2)


def matches(pattern, text):
    return re.fullmatch(pattern, " ".join(text.split())) is not None


def spoiled(text):
    """Texts of the words of text with one left out, put in, twice or exchanged."""
    pieces = text.split()
    told = []
    for place in range(len(pieces) + 1):
        ahead, behind = pieces[:place], pieces[place:]
        for word in VOCABULARY:
            told.append(ahead + [word] + behind)
        if behind:
            told.append(ahead + behind[1:])
            told.append(ahead + behind[:1] + behind)
            for word in VOCABULARY:
                told.append(ahead + [word] + behind[1:])
        if len(behind) > 1:
            told.append(ahead + [behind[1], behind[0]] + behind[2:])
    return [" ".join(one) for one in told]


def blanks(text, ahead, between, behind):
    return " " * ahead + (" " * between).join(text.split(" ")) + " " * behind


def refusal(call, *arguments):
    """The class that a call is refused with, or None."""
    try:
        call(*arguments)
    except Exception as error:
        return type(error)
    return None


def parts_of(text):
    parts = [[]]
    for piece in text.split():
        if piece == ";":
            parts.append([])
        else:
            parts[-1].append(piece)
    return [" ".join(part) for part in parts]


def balanced(joins, leaf, form):
    """A leaf joined with itself so many times, as flat as can be."""
    if joins == 0:
        return leaf
    one = (joins - 1) // 2
    return form.format(balanced(one, leaf, form), balanced(joins - 1 - one, leaf, form))


def long_saying(number):
    """A saying of so many words, 297 to 301."""
    if number == 301:
        return balanced(75, "yes", "[ {} and {} ]")
    leaf = {297: "yes", 299: "1 < 2", 300: "[ not yes ]"}[number]
    return balanced(74, "yes", "[ {} and {} ]").replace("yes", leaf, 1)


def squares(depth, inner="yes"):
    return "[ not " * depth + inner + " ]" * depth


def steps_of(machine, room):
    return [(deed.called, behind) for deed in machine.deeds for behind in machine.behind(room, deed.called)]


def goes(machine, room):
    return any(machine.behind(room, deed.called) for deed in machine.deeds)


def all_rooms(machine):
    return list(itertools.product(*[range(low, high + 1) for name, low, high, start in machine.places]))


def holds_by(far, near, tie, far_room, room):
    values = {"@" + place[0]: value for place, value in zip(far.places, far_room)}
    values.update({place[0]: value for place, value in zip(near.places, room)})
    return tie.saying.holds(values)


def far_ends(far, near, tie, run):
    """The far rooms in which a far run may be behind a run, all steps of which it answers; from the start."""
    ends = {far.first()} if holds_by(far, near, tie, far.first(), near.first()) else set()
    for called, room in run:
        stood_for = dict(tie.table)[called]
        reached = ends if stood_for is None else {one for far_room in ends for one in far.behind(far_room, stood_for)}
        ends = {far_room for far_room in reached if holds_by(far, near, tie, far_room, room)}
    return ends


def end_of(machine, run):
    return run[-1][1] if run else machine.first()


def go_on(machine, run):
    """A run, held against point 11 step by step."""
    room = machine.first()
    for called, behind in run:
        if called not in [deed.called for deed in machine.deeds] or behind not in machine.behind(room, called):
            return False
        room = behind
    return True


def some_runs(machine, length, chance):
    """Some runs of at most so many steps, the empty one among them."""
    runs = [()]
    for number in range(6):
        run = ()
        while len(run) < length:
            steps = steps_of(machine, end_of(machine, run))
            if not steps:
                break
            run += (chance.choice(steps),)
        runs.append(run)
    return runs


def some_sum(chance, names, depth):
    if depth == 0 or chance.random() < 0.4:
        return chance.choice(list(names) + [str(chance.randrange(3))])
    return f"( {some_sum(chance, names, depth - 1)} {chance.choice('+-*')} {some_sum(chance, names, depth - 1)} )"


def some_saying(chance, names, depth):
    if depth == 0 or chance.random() < 0.4:
        if chance.random() < 0.3:
            return "yes"
        return f"{some_sum(chance, names, 1)} {chance.choice(['<', '<=', '=', '!='])} {some_sum(chance, names, 1)}"
    if chance.random() < 0.2:
        return f"[ not {some_saying(chance, names, depth - 1)} ]"
    join = chance.choice(["and", "or"])
    return f"[ {some_saying(chance, names, depth - 1)} {join} {some_saying(chance, names, depth - 1)} ]"


def some_change(chance, name, names, free):
    if chance.random() < free:
        return f"{name} any {chance.choice(['0', name, some_sum(chance, names, 1)])} to {some_sum(chance, names, 1)}"
    if chance.random() < 0.6:
        return f"{name} = ( {name} {chance.choice('+-')} 1 )"
    return f"{name} = {some_sum(chance, names, 1)}"


def some_deed(chance, called, names, free):
    changed = [name for name in names if chance.random() < 0.6]
    changes = " , ".join(some_change(chance, name, names, free) for name in changed)
    when = "yes" if chance.random() < 0.4 else some_saying(chance, names, 1)
    return f"deed {called} when {when}" + (f" do {changes}" if changes else "")


def some_names(chance, names):
    parts = []
    for name in names:
        low = chance.randrange(2)
        high = low + chance.randrange(1, 4)
        parts.append(f"name {name} from {low} to {high} at {chance.randint(low, high)}")
    return parts


def some_pair(number, free=0.3):
    """A far machine, a near one and a tie, read; often much alike, so that the near one is nearer at times."""
    chance = random.Random(number)
    names = "xy"[:chance.choice([0, 1, 1, 2, 2, 2])]
    far_parts = some_names(chance, names)
    far_deeds = {called: some_deed(chance, called, names, free) for called in "abc"[:chance.choice([0, 1, 2, 2, 3, 3])]}
    near_parts, near_deeds, table = list(far_parts), {}, {}
    near_names = names
    for called, deed in far_deeds.items():
        if chance.random() < 0.2:
            deed = some_deed(chance, called, names, free)
        elif chance.random() < 0.3:
            deed = deed.replace("when", f"when [ {some_saying(chance, names, 0)} and", 1)
            deed = deed.replace(" do", " ] do", 1) if " do" in deed else deed + " ]"
        if chance.random() < 0.9:
            near_deeds[called] = deed
            table[called] = called if chance.random() < 0.9 else chance.choice(list(far_deeds) + ["none"])
    if chance.random() < 0.6:
        near_names += "w"
        near_parts.append(f"name w from 0 to {chance.randrange(1, 4)} at {chance.randrange(0, 2)}")
        for called in "pq"[:chance.randrange(1, 3)]:
            change = chance.choice(["( w - 1 )", "( w + 1 )", "( 1 - w )", "w", "0"])
            near_deeds[called] = f"deed {called} when {some_saying(chance, near_names, 0)} do w = {change}"
            table[called] = "none"
    own = [f"@{name} = {name}" for name in names if chance.random() < 0.7]
    saying = "yes" if not own else own[0] if len(own) == 1 else f"[ {own[0]} and {own[1]} ]"
    if chance.random() < 0.3:
        far_names = [f"@{name}" for name in names]
        saying = f"[ {saying} {chance.choice(['and', 'or'])} {some_saying(chance, list(near_names) + far_names, 0)} ]"
    far = read_machine(" ; ".join(far_parts + list(far_deeds.values())))
    near = read_machine(" ; ".join(near_parts + list(near_deeds.values())))
    steps = [f"step {called} for {stood_for}" for called, stood_for in table.items()]
    falling = some_sum(chance, near_names, 1)
    return far, near, read_tie(" ; ".join([f"tie {saying}"] + steps + [f"falls {falling}"]), far, near)


def rooms_come_to(machine):
    known = {machine.first()}
    wider = known
    while wider:
        wider = {behind for room in wider for called, behind in steps_of(machine, room)} - known
        known = known | wider
    return known


def some_pairs(number, rooms=1, free=0.3):
    """So many pairs whose near machine comes to so many rooms at least."""
    pairs, seed = [], 0
    while len(pairs) < number:
        pair = some_pair(seed, free)
        seed += 1
        if len(rooms_come_to(pair[1])) >= rooms:
            pairs.append(pair)
    return pairs


def closed_by_point_19(far, near, table, pairs):
    if any(not one < other for one, other in zip(pairs, pairs[1:])):
        return False
    among = set(pairs)
    return (far.first(), near.first()) in among and all(fits_among(far, near, table, pair, among) for pair in among)


def fits_among(far, near, table, pair, among):
    """What point 19 says of each pair."""
    far_room, room = pair
    steps = steps_of(near, room)
    for called, behind in steps:
        stood_for = dict(table)[called]
        far_behind = [far_room] if stood_for is None else far.behind(far_room, stood_for)
        if not any((one, behind) in among for one in far_behind):
            return False
    return bool(steps) or not goes(far, far_room)


def some_nearer(far, name, chance):
    """A machine much like far, with one name more and quiet deeds, and a tie of it to far."""
    deeds = [part for part in parts_of(shown_machine(far)) if part.startswith("deed")]
    names = [part for part in parts_of(shown_machine(far)) if part.startswith("name")]
    most = chance.randrange(1, 4)
    names.append(f"name {name} from 0 to {most} at {chance.randint(0, most)}")
    table = {}
    for number, deed in enumerate(deeds):
        called = deed.split()[1]
        table[called] = called if chance.random() < 0.9 else chance.choice([one.called for one in far.deeds] + ["none"])
        if chance.random() < 0.5:
            guard = chance.choice([f"{name} = 0", f"0 < {name}", f"{name} < 2"])
            head, do, changes = deed.partition(" do ")
            deeds[number] = head.replace("when ", f"when [ {guard} and ", 1) + " ]" + do + changes
        if chance.random() < 0.3 and " do " in deeds[number] and deeds[number].count(" , ") < 2:
            deeds[number] += f" , {name} any 0 to {most}"
    if len(deeds) < 6:
        called = "quiet" + name
        deeds.append(f"deed {called} when {chance.choice(['yes', f'0 < {name}'])} do {name} = ( {name} - 1 )")
        table[called] = "none"
    own = [f"@{place[0]} = {place[0]}" for place in far.places if chance.random() < 0.9]
    saying = "yes"
    for one in own:
        saying = one if saying == "yes" else f"[ {saying} and {one} ]"
    near = read_machine(" ; ".join(names + deeds))
    steps = [f"step {called} for {stood_for}" for called, stood_for in table.items()]
    return near, read_tie(" ; ".join([f"tie {saying}"] + steps + [f"falls {name}"]), far, near)


def some_chain(number, free=0.3):
    """Three machines, far, middle and near, and the ties of the middle one and of the near one."""
    chance = random.Random(number)
    name = some_names(chance, "x")
    deeds = [some_deed(chance, called, "x", free) for called in "abc"[:chance.randrange(1, 4)]]
    far = read_machine(" ; ".join(name + deeds))
    middle, to_far = some_nearer(far, "y", chance)
    near, to_middle = some_nearer(middle, "z", chance)
    return far, middle, near, to_far, to_middle
