"""Ways of two: what two maps, each with a value or None at a place, tell there together."""


def either(value, other_value):
    return other_value if value is None else value


def if_both(value, other_value):
    return None if other_value is None else value


def if_alone(value, other_value):
    return value if other_value is None else None


def summed(value, other_value):
    if value is None or other_value is None:
        return either(value, other_value)
    return value + other_value
