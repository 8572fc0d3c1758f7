"""The values of expressions under one row of answers.

What the names stand for is told by a case (cases.py). Each function below takes the case, the spot where the
expression stands, and what else the expression is made of: told and its parts (expressions.py).
"""

from laterknown.errors import LaterError
from laterknown.values import DEEPEST_LIST, LONGEST_LIST, is_integer_value


class NoValue(LaterError):
    """An expression cannot be evaluated."""


class Spot:
    """Where an expression stands.

    The ground tells what is named there; the key is what index or each stands for, own are those fields of the
    thing that a rule is about which have a value.
    """

    def __init__(self, ground, key, own):
        self.ground = ground
        self.key = key
        self.own = own


def value_of(case, spot, expression):
    """The value of an expression; raises NoValue if it cannot be evaluated."""
    form, told, parts = expression
    work = WORKS[form]
    return work(case, spot, told, parts)


def as_bool(value):
    """A value that has to be a bool."""
    if not isinstance(value, bool):
        raise NoValue()
    return value


def as_integer(value):
    """A value that has to be an integer."""
    if not is_integer_value(value):
        raise NoValue()
    return value


def as_list(value):
    """A value that has to be a list."""
    if not isinstance(value, tuple):
        raise NoValue()
    return value


def depth_of(value):
    """How deep lists are nested in a value."""
    if not isinstance(value, tuple):
        return 0
    return 1 + max([depth_of(part) for part in value], default=0)


def as_result(parts):
    """The list of these values, which has to be a value."""
    if len(parts) > LONGEST_LIST or depth_of(parts) > DEEPEST_LIST:
        raise NoValue()
    return parts


def value_written(case, spot, told, parts):
    """The value of what is written as a value."""
    return told


def value_of_name(case, spot, told, parts):
    """The value of a let or an input."""
    ground = spot.ground
    if told in ground.scope.lets:
        return case.value_at((ground.path, "let", told), Spot(ground, None, None), ground.scope.lets[told])
    root = case.layout.root()
    return case.value_at((ground.path, "input", told), Spot(root, None, None), ground.given[told])


def value_of_key(case, spot, told, parts):
    """The value of index or each."""
    return spot.key


def value_of_own(case, spot, told, parts):
    """The value of a field of the thing that a rule is about."""
    if told not in spot.own:
        raise NoValue()
    return spot.own[told]


def value_of_output(case, spot, told, parts):
    """The value of an output of a use."""
    use_name, output = told
    ground = case.layout.grounds[f"{use_name}/"]
    return case.value_at((ground.path, "output", output), Spot(ground, None, None), ground.scope.outputs[output])


def value_of_one(case, spot, told, parts):
    """The value of a field or an answer of a block without instances."""
    kind_name, block_name, part = told
    return case.part_value(case.layout.site_at(spot.ground, kind_name, block_name), None, part)


def value_of_some(case, spot, told, parts):
    """The value of a field or an answer of the instance of a block with this index or key."""
    kind_name, block_name, part = told
    site = case.layout.site_at(spot.ground, kind_name, block_name)
    wanted = value_of(case, spot, parts[0])
    for key in case.instances_of(site):
        if case.are_alike(wanted, key):
            return case.part_value(site, key, part)
    raise NoValue()


def value_of_all(case, spot, told, parts):
    """The list of a field or an answer of all instances of a block."""
    kind_name, block_name, part = told
    site = case.layout.site_at(spot.ground, kind_name, block_name)
    return as_result(tuple([case.part_value(site, key, part) for key in case.instances_of(site)]))


def value_of_list(case, spot, told, parts):
    """The value of a written list."""
    return as_result(tuple([value_of(case, spot, part) for part in parts]))


def value_of_length(case, spot, told, parts):
    """The length of a list."""
    return len(as_list(value_of(case, spot, parts[0])))


def value_of_if(case, spot, told, parts):
    """The value of the branch that the condition tells; the other one is not evaluated."""
    condition, then, otherwise = parts
    return value_of(case, spot, then if as_bool(value_of(case, spot, condition)) else otherwise)


def value_of_not(case, spot, told, parts):
    """The other bool."""
    return not as_bool(value_of(case, spot, parts[0]))


def value_of_comparison(case, spot, told, parts):
    """The bool that a comparison gives."""
    one, other = [value_of(case, spot, part) for part in parts]
    if told == "in":
        return is_among(case, one, as_list(other))
    if told in ("==", "!="):
        return case.are_alike(one, other) == (told == "==")
    if told == "<":
        return as_integer(one) < as_integer(other)
    return as_integer(one) > as_integer(other)


def is_among(case, value, parts):
    """Whether one of the parts of a list is alike a value."""
    for part in parts:
        if case.are_alike(value, part):
            return True
    return False


def value_of_chain(case, spot, told, parts):
    """The value of operands with operators of one row between them."""
    if told[0] in ("or", "and"):
        return value_of_logic(case, spot, told[0] == "or", parts)
    values = [value_of(case, spot, part) for part in parts]
    return joined(values) if told[0] == "++" else summed(told, values)


def value_of_logic(case, spot, decides, parts):
    """The value of bools between which or stands, if true decides, and otherwise and."""
    for part in parts:
        if as_bool(value_of(case, spot, part)) == decides:
            return decides
    return not decides


def joined(values):
    """One list behind the other."""
    whole = as_list(values[0])
    for value in values[1:]:
        whole = as_result(whole + as_list(value))
    return whole


def summed(signs, values):
    """The sum of integers with these signs between them; each of its steps has to be a value."""
    total = as_integer(values[0])
    for sign, value in zip(signs, values[1:]):
        step = as_integer(value)
        total = as_integer(total + step if sign == "+" else total - step)
    return total


def value_of_item(case, spot, told, parts):
    """The part of a list at an index, or of this part at the next one, and so on."""
    value = value_of(case, spot, parts[0])
    for part in parts[1:]:
        index = as_integer(value_of(case, spot, part))
        if not 0 <= index < len(as_list(value)):
            raise NoValue()
        value = value[index]
    return value


WORKS = {
    "integer": value_written,
    "text": value_written,
    "bool": value_written,
    "name": value_of_name,
    "index": value_of_key,
    "each": value_of_key,
    "own": value_of_own,
    "output": value_of_output,
    "one": value_of_one,
    "some": value_of_some,
    "all": value_of_all,
    "list": value_of_list,
    "len": value_of_length,
    "if": value_of_if,
    "not": value_of_not,
    "compare": value_of_comparison,
    "chain": value_of_chain,
    "item": value_of_item,
}
