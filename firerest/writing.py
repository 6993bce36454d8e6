"""Writing sheets as texts."""

from firerest.words import place_text


def write_sheet(sheet):
    """Return a text from which the sheet can be read again."""
    lines = [row_text(row) for row in sheet.weave]
    if len(sheet.deeds) > 0:
        lines.append("do")
        lines.extend(deed_lines(sheet.deeds, ""))
    return "".join([line + "\n" for line in lines])


def row_text(row):
    """Return the words of a row with one space between them."""
    return " ".join([word_text(item) for item in row])


def word_text(item):
    """Return the word for an argument."""
    if isinstance(item, str):
        return item
    return str(item) if isinstance(item, int) else place_text(item)


def deed_lines(deeds, indent):
    """Return the lines of deeds, each behind the indent."""
    found = []
    for deed in deeds:
        found.extend([indent + line for line in lines_of(deed)])
    return found


def lines_of(deed):
    """Return the lines of a deed; those of the deeds in it are indented."""
    first = deed[0]
    if first == "poke":
        return [row_text(deed[:1] + deed[1])]
    if first == "when":
        others = deed_lines(deed[4], "  ")
        otherwise = ["else"] + others if len(others) > 0 else []
        return [row_text(deed[:3])] + deed_lines(deed[3], "  ") + otherwise + ["end"]
    if first in ("times", "try"):
        return [row_text(deed[:-1])] + deed_lines(deed[-1], "  ") + ["end"]
    return [row_text(deed)]
