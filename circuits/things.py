"""What is asked of a thing of which it isn't known what it is."""


def is_whole(thing):
    # Python counts its truths among the whole numbers.
    return isinstance(thing, int) and not isinstance(thing, bool)


def is_tuple_of(thing, length):
    return isinstance(thing, tuple) and len(thing) == length


def same_truth(thing, truth):
    # Python takes 1 for True and 0 for False.
    return thing == truth and isinstance(thing, bool) == isinstance(truth, bool)
