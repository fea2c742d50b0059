"""What all modules mean by fates, words, losses, wishes, integers and names, and how they refuse what is none."""

from twofarplayers.errors import BadLoss, BadNumber, BadWishes, BadWord

FATES = "nfs"
LETTERS = "abcdefghijklmnopqrstuvwxyz"
MOST_FATES = 200
MOST_ROUNDS = 200
MOST_LETTERS = 6


def is_name(value):
    """Whether this is a string of 1 to 6 letters a to z."""
    return type(value) is str and 1 <= len(value) <= MOST_LETTERS and all([sign in LETTERS for sign in value])


def is_whole(value):
    """Whether this is an integer; True and False are none."""
    return type(value) is int


def is_made_of_fates(value):
    """Whether this is a word of any length."""
    return type(value) is str and all([sign in FATES for sign in value])


def is_word(value):
    """Whether this is a word that is short enough to be handed in."""
    return type(value) is str and len(value) <= MOST_FATES and is_made_of_fates(value)


def is_long_loss(value):
    """Whether this is a loss of any length."""
    if type(value) is not tuple or len(value) != 2:
        return False
    return all([is_made_of_fates(word) for word in value]) and value[1] != ""


def is_loss(value):
    """Whether this is a loss that is short enough to be handed in."""
    return is_long_loss(value) and all([len(word) <= MOST_FATES for word in value])


def is_wishes(value):
    """Whether this is a wish of the first player and one of the second player, each 0 or 1."""
    return type(value) is tuple and len(value) == 2 and all([is_whole(wish) and 0 <= wish <= 1 for wish in value])


def need_word(value):
    """Refuse what is no word."""
    if not is_word(value):
        raise BadWord(value)


def need_loss(value):
    """Refuse what is no loss."""
    if not is_loss(value):
        raise BadLoss(value)


def need_wishes(value):
    """Refuse what are no wishes."""
    if not is_wishes(value):
        raise BadWishes(value)


def need_number(value, most):
    """Refuse what is no integer from 0 to most."""
    if not is_whole(value) or not 0 <= value <= most:
        raise BadNumber(value)
