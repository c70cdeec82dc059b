"""The lines of texts: how an order is written, and which order a line is."""


def words_of(thing):
    """The list of the words of an order, or of a part of one."""
    if thing is None:
        return ["no"]
    if not isinstance(thing, tuple):
        return [str(thing)]
    if not thing:
        return ["-"]
    if isinstance(thing[0], int):
        return [",".join([str(u) for u in thing])]
    return [word for part in thing for word in words_of(part)]


def line_of(order):
    """The line of an order."""
    return " ".join(words_of(order))


def number_in(word):
    """The integer that is written so; any other word as it is, which is no integer."""
    digits = word[1:] if word.startswith("-") else word
    if not digits.isascii() or not digits.isdecimal() or len(digits) > 900:
        return word
    return int(word)


def conditions_in(word):
    """The conditions that are written so."""
    if word == "no":
        return None
    if word == "-":
        return ()
    return tuple([number_in(part) for part in word.split(",")])


def numbers_in(words):
    """The tuple of the integers that are written so; other words stay as they are."""
    return tuple([number_in(word) for word in words])


def fact_in(words):
    """The fact with these words."""
    return tuple(words[:1]) + numbers_in(words[1:2]) + tuple([conditions_in(word) for word in words[2:]])


def message_in(words):
    """The message with these words."""
    if words[:1] == ["tell"]:
        return ("tell", fact_in(words[1:-1]), number_in(words[-1]))
    if words[:1] == ["vote"]:
        return ("vote",) + numbers_in(words[1:-1]) + (conditions_in(words[-1]),)
    return tuple(words[:1]) + numbers_in(words[1:])


def operation_in(words):
    """The operation with these words: a word, a key and perhaps a value."""
    return tuple(words[:2]) + numbers_in(words[2:])


def order_in(line):
    """The order with this line; something that is no order, or that has another line, if there is none."""
    words = line.split(" ")
    if words[0] == "deliver":
        return ("deliver", message_in(words[1:]))
    if words[0] == "do":
        return ("do",) + numbers_in(words[1:3]) + (operation_in(words[3:]),)
    return (words[0],) + numbers_in(words[1:])
