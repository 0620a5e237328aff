"""The words of a memory in a cycle (point 02.6)."""


def word_at(words, address):
    """Returns the word at an address, which is 0 beyond the depth."""
    return words[address] if address < len(words) else 0


def words_after(words, writes):
    """Returns the words behind a cycle, new; the writes are triples of an enable, an address and a word."""
    after = list(words)
    for enable, address, word in writes:
        if enable == 1 and address < len(after):
            after[address] = word
    return after
