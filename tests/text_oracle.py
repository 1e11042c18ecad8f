"""Slow answers about texts, made from the words of the document alone, and texts for the tests."""

import re

from oracle import fits_definition

NAME = "[a-z]{1,8}"
NUMBER = "(?:0|[1-9][0-9]{0,8})"
ENTRY = f"(?:[+-]{NAME}|={NUMBER}|<{NAME}[.]{NAME})"
LINE = f"{NAME}:(?: {ENTRY})*"
FACT = f"({NAME}[.]{NUMBER})<({NAME}[.]{NUMBER})"

ALPHABET = "abz:+-=<. 0169\nA?"


def fault_in_logs(text):
    """The number that NoText has, or None if the text is one of logs."""
    lines = text.split("\n")
    for at, line in enumerate(lines):
        if not re.fullmatch(LINE, line):
            return at
        if at > 0 and line.split(":")[0] <= lines[at - 1].split(":")[0]:
            return at
    found = {}
    for line in lines:
        words = line.split(" ")
        found[words[0][:-1]] = [slow_entry(word) for word in words[1:]]
    sizes = [entry[1] for log in found.values() for entry in log if entry[0] == "size"]
    fits = len(lines) <= 6 and max(map(len, found.values())) <= 60 and max(sizes, default=0) <= 60
    return None if fits and fits_definition(found) else len(lines)


def slow_entry(word):
    kind = {"+": "push", "-": "pop", "=": "size", "<": "steal"}[word[0]]
    if kind == "size":
        return kind, int(word[1:])
    return kind, *word[1:].split(".")


def fault_in_words(text, most, is_word):
    """The number that NoText has for words of a kind, or None."""
    if text == "-":
        return None
    if text.startswith("- "):
        return 1
    for at, word in enumerate(text.split(" ")):
        if at == most or not is_word(word):
            return at
    return None


def fault_in_facts(text):
    def is_word(word):
        found = re.fullmatch(FACT, word)
        return found is not None and found[1] != found[2]
    return fault_in_words(text, 200, is_word)


def fault_in_run(text):
    return fault_in_words(text, 360, lambda word: re.fullmatch(NAME, word) is not None)


def changed(chance, text):
    """A text that differs from another one in a few characters."""
    for _ in range(chance.choice([1, 1, 1, 2, 3])):
        at = chance.randrange(len(text) + 1)
        kind = chance.randrange(4)
        if kind == 0:
            text = text[:at] + chance.choice(ALPHABET) + text[at:]
        elif kind == 1:
            text = text[:at] + text[at + 1:]
        elif kind == 2:
            text = text[:at] + chance.choice(ALPHABET) + text[at + 1:]
        else:
            parts = text.split(" ")
            second = chance.randrange(len(parts))
            parts.insert(chance.randrange(len(parts) + 1), parts[second])
            text = " ".join(parts)
    return text
