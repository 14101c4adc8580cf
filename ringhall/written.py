"""The picture of a hall: a text that tells all on which it goes on."""


def picture_of(floor):
    """The picture of a hall with this floor."""
    lines = [f"reach {floor.reach}"]
    for pit in floor.pits.values():
        parts = ["thing", pit.name, pit.start, pit.band, pit.rule, pit.phase_now, pit.last_price, pit.anchor_price]
        lines.append(line_of(parts))
    lines.append(f"next {floor.next_number} {floor.next_rank}")
    for number in sorted(floor.slips):
        lines.append(order_line(floor, number))
    for owner, cash, holdings in floor.accounts.rows():
        parts = ["owner", owner, cash]
        for holding in holdings:
            parts.extend(holding)
        lines.append(line_of(parts))
    return "\n".join(lines)


def order_line(floor, number):
    """The line of an order that stands or waits."""
    slip = floor.slips[number]
    row = floor.pits[slip.thing].book.row(number)
    seen, rank = (None, None) if row is None else (row[6], row[7])
    asked = [slip.owner, slip.thing, slip.side, slip.price, slip.shown, slip.stop, slip.life, slip.guard]
    return line_of(["order", number] + asked + [floor.left[number], seen, rank])


def line_of(parts):
    """The words of a line, with blanks between, - for None."""
    return " ".join(["-" if part is None else str(part) for part in parts])
