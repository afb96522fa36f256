"""Letters, and the order of the texts that are made of them."""


def is_letters(text):
    if len(text) < 1 or len(text) > 4:
        return False
    if len(set(text)) < len(text):
        return False
    return all(["a" <= sign <= "z" for sign in text])


def goes_first(letters, one, other):
    if len(one) != len(other):
        return len(one) < len(other)
    for mine, its in zip(one, other):
        if mine != its:
            return letters.find(mine) < letters.find(its)
    return False


def all_texts(letters, most):
    texts = [""]
    longest = [""]
    for signs in range(most):
        longest = one_sign_more(letters, longest)
        texts.extend(longest)
    return texts


def one_sign_more(letters, texts):
    longer = []
    for text in texts:
        for letter in letters:
            longer.append(text + letter)
    return longer
