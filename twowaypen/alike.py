"""Whether two writers are alike on all texts up to a length."""


def one_sign_longer(texts, letters):
    longer = []
    for text in texts:
        longer.extend([text + letter for letter in letters])
    return longer


def texts_of(letters, most):
    longest = [""]
    texts = [""]
    for length in range(most):
        longest = one_sign_longer(longest, letters)
        texts.extend(longest)
    return texts


def parted(one, other, most):
    for text in texts_of(one.letters, most):
        if one.outcome(text) != other.outcome(text):
            return text
    return None
