"""Words of ways in which parts are replaced by equal ones."""


def replaced(word, place, old, new):
    """The word with the word new in the place of the word old, or None if this does not stand there."""
    behind = place + len(old)
    if word[place:behind] != old:
        return None
    return word[:place] + new + word[behind:]


def steps_from(equals, word):
    """All steps that can be made from a word, each with the word behind it."""
    found = []
    for k, pair in enumerate(equals):
        for sense in range(2):
            for place in range(len(word)):
                more = replaced(word, place, pair[sense], pair[1 - sense])
                if more is not None:
                    found.append(((place, k, sense), more))
    return found
