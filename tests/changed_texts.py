"""Texts that are almost right: with one sign, word or line removed, doubled, replaced or exchanged."""

SIGNS = " \n\t\r-/,.0Az{`\u00e4\u00b2\u0661\x0b\x0c\x1c\x85\u2028"


def with_one_part_changed(parts, others):
    """Yield the list of parts with one removed, doubled, replaced, put in, or exchanged with another one."""
    for at, part in enumerate(parts):
        yield parts[:at] + parts[at + 1:]
        yield parts[:at + 1] + parts[at:]
        for other in others:
            yield parts[:at] + [other] + parts[at + 1:]
            yield parts[:at] + [other] + parts[at:]
        for later in range(at + 1, len(parts)):
            yield parts[:at] + [parts[later]] + parts[at + 1:later] + [part] + parts[later + 1:]
    for other in others:
        yield parts + [other]


def changed_texts(text, words, lines):
    """Return the texts that differ from this one in one sign, one word or one line."""
    found = ["".join(parts) for parts in with_one_part_changed(list(text), SIGNS)]
    found += ["\n".join(parts) for parts in with_one_part_changed(text.split("\n"), lines)]
    for at, line in enumerate(text.split("\n")):
        for parts in with_one_part_changed(line.split(" "), words):
            found.append("\n".join(text.split("\n")[:at] + [" ".join(parts)] + text.split("\n")[at + 1:]))
    return sorted(set(found) - {text})
