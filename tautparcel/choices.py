"""Choices of indexes: all ways to take some of a few things."""


def choices_of(many):
    """Returns all ascending tuples of unlike indexes below a number, the shorter ones first, then ascending."""
    indexes = range(many)
    found = [tuple([index for index in indexes if mask >> index & 1]) for mask in range(1 << many)]
    return sorted(found, key=lambda choice: (len(choice), choice))


def without_one(choice):
    """Returns the choices that have one index less."""
    return [(*choice[:place], *choice[place + 1:]) for place in range(len(choice))]


def is_part(choice, other):
    """Tells whether all indexes of a choice stand in the other one."""
    return [index for index in choice if index not in other] == []


def common_indexes(choices):
    """Returns the ascending indexes that stand in all choices, none if there are no choices."""
    if len(choices) == 0:
        return ()
    return tuple([index for index in choices[0] if [choice for choice in choices if index not in choice] == []])
