"""Showing a house and a program as a text."""


def show_house(house):
    kinds, sorts, judge = house
    lines = [_kind_line(house, kind) for kind in range(len(kinds))]
    lines.extend([f"sort {name}" for name in sorts])
    for sort, table in zip(sorts, judge):
        for kind, row in zip(kinds, table):
            words = [word for couple in row for word in couple]
            lines.append(" ".join(["ask", sort, kind[0]] + words))
    return "\n".join(lines)


def show_program(house, program):
    kind, deeds = program
    lines = [f"program {house[0][kind][0]}"]
    lines.extend([_deed_line(house, deed) for deed in deeds])
    return "\n".join(lines)


def _kind_line(house, kind):
    name, keeps, rise = house[0][kind]
    words = ["kind", name, "keeps" if keeps else "renews"]
    if rise != kind:
        words.extend(["rises", house[0][rise][0]])
    return " ".join(words)


def _deed_line(house, deed):
    if deed == "work":
        return deed
    sort, number = deed
    return f"take {house[1][sort]} {number}"
