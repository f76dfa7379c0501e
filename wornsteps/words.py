"""Words for numbers, things and marks, as texts and commands have them."""

MOST_DIGITS = 30
ENDLESS = "-"


def count_in(word):
    """The COUNT of at most thirty digits that a word tells without needless zeros; None if it tells none."""
    if not word.isascii() or not word.isdigit() or len(word) > MOST_DIGITS:
        return None
    return None if word[0] == "0" and len(word) > 1 else int(word)


def counts_in(words):
    """The tuple of the COUNTS that words tell; None if one of them tells none."""
    counts = tuple([count_in(word) for word in words])
    return None if None in counts else counts


def thing_in(words):
    """What words tell of a thing, whether or not a stair has it; None if they tell none."""
    if words == ["feet"]:
        return "feet"
    places = counts_in(words[1:])
    if places is None:
        return None
    if len(places) == 1 and words[0] == "step":
        return places[0]
    return places if len(places) == 2 and words[0] == "stride" else None


def mark_in(words):
    """The mark that words tell; None if they tell none."""
    if len(words) != 2:
        return None
    low = count_in(words[0])
    if words[1] == ENDLESS:
        return None if low is None else (low, None)
    high = count_in(words[1])
    return None if low is None or high is None or high < low else (low, high)


def told_number(number):
    """The word for a number; None is endless."""
    return ENDLESS if number is None else str(number)


def told_thing(thing):
    """The words for a thing, with blanks between."""
    if isinstance(thing, str):
        return thing
    return f"stride {thing[0]} {thing[1]}" if isinstance(thing, tuple) else f"step {thing}"
