"""The forms of bodies (point 6).

A body is read into branches: one list of phases, or two (own, other) if it asks `if own`.
A phase is a pair ("all" or "each", rules), a rule is a pair (test, hops), a test is None or a
pair (word, wanted), and a hop is a pair ("raw", ""), ("self", door) or ("super", door).
"""

from everydoor.errors import BadLine
from everydoor.names import is_plain_name

MOST_HOPS = 3
MOST_TESTS = 2
MOST_PHASES = 3
OWN_START = "if own then "


def parse_body(body, at):
    """Return (takes, branches) of the body in line `at`; raise BadLine if it has no form.

    The rules of a body for a door that takes one are one phase `each`, which is what they do.
    """
    if body.startswith(OWN_START):
        own, gap, other = body[len(OWN_START):].partition(" else ")
        return ("many", [parse_phases(own, at), parse_phases(other, at)])
    if body.startswith("all ") or body.startswith("each "):
        return ("many", [parse_phases(body, at)])
    return ("one", [[("each", parse_rules(body, at))]])


def parse_phases(words, at):
    """Return the phases that the words write."""
    parts = words.split(" ; ")
    if len(parts) > MOST_PHASES:
        raise BadLine(at)
    return [parse_phase(part, at) for part in parts]


def parse_phase(words, at):
    """Return the phase that the words write."""
    if words.startswith("all "):
        return ("all", [(None, parse_hops(words[len("all "):], at))])
    if words.startswith("each "):
        return ("each", parse_rules(words[len("each "):], at))
    raise BadLine(at)


def parse_rules(words, at):
    """Return the rules that the words write; the last one has no test."""
    parts = words.split(" | ")
    if len(parts) > MOST_TESTS + 1:
        raise BadLine(at)
    rules = [parse_tested(part, at) for part in parts[:-1]]
    rules.append((None, parse_hops(parts[-1], at)))
    return rules


def parse_tested(words, at):
    """Return the rule that begins with a test."""
    if not words.startswith("if "):
        raise BadLine(at)
    test, gap, hops = words[len("if "):].partition(" then ")
    return (parse_test(test, at), parse_hops(hops, at))


def parse_test(words, at):
    """Return (word, wanted): what the test asks for, and whether it asks that it is so."""
    wanted = not words.startswith("not ")
    word = words if wanted else words[len("not "):]
    if word != "held" and not is_plain_name(word):
        raise BadLine(at)
    return (word, wanted)


def parse_hops(words, at):
    """Return the hops that the words write; `drop` is none."""
    if words == "drop":
        return []
    parts = words.split(", ")
    if len(parts) > MOST_HOPS:
        raise BadLine(at)
    return [parse_hop(part, at) for part in parts]


def parse_hop(words, at):
    """Return the hop that the words write."""
    if words == "raw":
        return ("raw", "")
    way, dot, door = words.partition(".")
    if way not in ("self", "super") or not is_plain_name(door):
        raise BadLine(at)
    return (way, door)


def list_uses(branches):
    """Return a list of (use, name) for the names in the branches, in the order of the text.

    The use is "mark" for a mark in a test, otherwise the phase in which the door is a hop.
    """
    uses = []
    for phases in branches:
        for phase, rules in phases:
            for test, hops in rules:
                uses.extend(uses_of_test(test))
                uses.extend([(phase, door) for way, door in hops if way != "raw"])
    return uses


def uses_of_test(test):
    """Return a list with the use of the mark in the test, if it has one."""
    if test is None or test[0] == "held":
        return []
    return [("mark", test[0])]
