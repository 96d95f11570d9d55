"""Rules by which questions are turned, with the same answers (points 36 and 37)."""

from whence.errors import NoRule
from whence.picks import columns_of, test_called
from whence.places import heads_at, part_at, with_part
from whence.questions import head_of, in_order
from whence.rings import replaced

RULES = (
    "part pick", "swap picks", "pick put", "pick left", "pick right", "pick keep", "pick call", "keep keep",
    "keep put", "keep join", "share left", "share right", "lean join", "swap join", "lean put", "swap put",
    "one round",
)


# Whether the question has that word, and what it holds at `k` the other one.
def has_form(question, word, k, below):
    return question[0] == word and question[k][0] == below


def part_pick(question, heads):
    if not has_form(question, "pick", 1, "and"):
        return None
    both = question[1]
    return ("pick", both[1], ("pick", both[2], question[2]))


def swap_picks(question, heads):
    if not has_form(question, "pick", 2, "pick"):
        return None
    inner = question[2]
    return ("pick", inner[1], ("pick", question[1], inner[2]))


def pick_put(question, heads):
    if not has_form(question, "pick", 2, "put"):
        return None
    test = question[1]
    put = question[2]
    return ("put", ("pick", test, put[1]), ("pick", test, put[2]))


def pick_left(question, heads):
    if not picks_from_side(question, 1, heads):
        return None
    join = question[2]
    return ("join", ("pick", question[1], join[1]), join[2])


def pick_right(question, heads):
    if not picks_from_side(question, 2, heads):
        return None
    join = question[2]
    return ("join", join[1], ("pick", question[1], join[2]))


def picks_from_side(question, side, heads):
    if not has_form(question, "pick", 2, "join"):
        return False
    head = head_of(question[2][side], heads)
    return all([column in head for column in columns_of(question[1])])


def pick_keep(question, heads):
    if not has_form(question, "pick", 2, "keep"):
        return None
    keep = question[2]
    return ("keep", keep[1], ("pick", question[1], keep[2]))


def pick_call(question, heads):
    if not has_form(question, "pick", 2, "call"):
        return None
    call = question[2]
    return ("call", call[1], call[2], ("pick", test_called(question[1], call[2], call[1]), call[3]))


def keep_keep(question, heads):
    if not has_form(question, "keep", 2, "keep"):
        return None
    return ("keep", question[1], question[2][2])


def keep_put(question, heads):
    if not has_form(question, "keep", 2, "put"):
        return None
    columns = question[1]
    put = question[2]
    return ("put", ("keep", columns, put[1]), ("keep", columns, put[2]))


def keep_join(question, heads):
    if not has_form(question, "keep", 2, "join"):
        return None
    columns = question[1]
    join = question[2]
    left = head_of(join[1], heads)
    right = head_of(join[2], heads)
    one = ("keep", needed(left, columns, right), join[1])
    other = ("keep", needed(right, columns, left), join[2])
    return ("keep", columns, ("join", one, other))


def needed(head, columns, other):
    return tuple([column for column in head if column in columns or column in other])


def share_left(question, heads):
    if not has_form(question, "join", 1, "put"):
        return None
    put = question[1]
    return ("put", ("join", put[1], question[2]), ("join", put[2], question[2]))


def share_right(question, heads):
    if not has_form(question, "join", 2, "put"):
        return None
    put = question[2]
    return ("put", ("join", question[1], put[1]), ("join", question[1], put[2]))


def lean_join(question, heads):
    return leaned(question, "join")


def lean_put(question, heads):
    return leaned(question, "put")


def leaned(question, word):
    if not has_form(question, word, 1, word):
        return None
    inner = question[1]
    return (word, inner[1], (word, inner[2], question[2]))


def swap_join(question, heads):
    return swapped(question, "join", heads)


def swap_put(question, heads):
    return swapped(question, "put", heads)


# The keep brings the columns back to their order: it is the first side's that leads.
def swapped(question, word, heads):
    if question[0] != word:
        return None
    return ("keep", head_of(question, heads), (word, question[2], question[1]))


def one_round(question, heads):
    if question[0] != "ring":
        return None
    name = question[1]
    start = question[3]
    step = question[4]
    if question[2] == 0:
        return start
    if has_ring(step):
        return None
    return ("put", start, replaced(step, name, ("ring", name, question[2] - 1, start, step)))


def has_ring(question):
    return any([part[0] == "ring" for part in in_order(question)])


TURNS = {
    "part pick": part_pick, "swap picks": swap_picks, "pick put": pick_put, "pick left": pick_left,
    "pick right": pick_right, "pick keep": pick_keep, "pick call": pick_call, "keep keep": keep_keep,
    "keep put": keep_put, "keep join": keep_join, "share left": share_left, "share right": share_right,
    "lean join": lean_join, "swap join": swap_join, "lean put": lean_put, "swap put": swap_put,
    "one round": one_round,
}


def turned(rule, question, heads):
    check_rule(rule)
    turn = TURNS[rule]
    return turn(question, heads)


def check_rule(rule):
    if rule not in RULES:
        raise NoRule(f"there is no rule {rule!r}")


def turned_at(rule, question, place, heads):
    check_rule(rule)
    told = turned(rule, part_at(question, place), heads_at(question, place, heads))
    return None if told is None else with_part(question, place, told)
