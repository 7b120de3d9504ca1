"""Values with one part otherwise."""

from nodeadnight.errors import BadStay, BadStretch
from nodeadnight.stays import Stay
from nodeadnight.stretches import Stretch


def changed(source, value):
    """A value that is otherwise in one place; now and then it is none of the kind any more."""
    if isinstance(value, bool) or value is None:
        return source.choice([0, (), "", [None]])
    if isinstance(value, int):
        return source.choice([value + 1, value - 1, value + 1, value - 1, -value, str(value), None, value + 10 ** 59,
                              bool(value) if value in (0, 1) else (value,)])
    if isinstance(value, tuple):
        return changed_tuple(source, value)
    if isinstance(value, dict):
        return changed_dict(source, value)
    if isinstance(value, (Stay, Stretch)):
        return changed_nights(source, value)
    return None


def changed_tuple(source, value):
    way = source.choice(["list", "less", "twice", "turned", "more", "item", "item", "item"])
    if way == "list":
        return list(value)
    if not value:
        return source.choice([(0,), (Stay(0, 1),), ((),), (None,)])
    at = source.randrange(len(value))
    if way == "less":
        return value[:at] + value[at + 1:]
    if way == "twice":
        return value[:at] + value[at:at + 1] + value[at:]
    if way == "turned":
        return value[::-1]
    if way == "more":
        return value + (changed(source, value[-1]),)
    return value[:at] + (changed(source, value[at]),) + value[at + 1:]


def changed_dict(source, value):
    key = source.choice(list(value))
    way = source.choice(["less", "more", "worth", "worth", "worth", "truth", "items"])
    if way == "less":
        return {each: value[each] for each in value if each != key}
    if way == "more":
        return {**value, source.choice([max(value) + 1, min(value) - 1, None, str(key)]): 0}
    if way == "worth":
        return {**value, key: changed(source, value[key])}
    if way == "truth":
        return {bool(each) if each in (0, 1) else each: value[each] for each in value}
    return list(value.items())


def changed_nights(source, value):
    first, second = (value.first, value.after) if isinstance(value, Stay) else (value.day, value.nights)
    first, second = source.choice([(first + 1, second), (first - 1, second), (first, second + 1), (first, second - 1),
                                   (first + 1, second + 1)])
    try:
        return source.choice([Stay, type(value), type(value), type(value), type(value)])(first, second)
    except (BadStay, BadStretch):
        return str(value)


def changed_paper(source, paper):
    """A paper with one attribute otherwise."""
    told = dict(vars(paper))
    name = source.choice(list(told))
    return type(paper)(**{**told, name: changed(source, told[name])})
