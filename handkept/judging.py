"""What is told of an edit on the way through its two texts.

A state is (home, made, meant, front, rear, bits), as section 8 of the document tells it.
"""

MOST_COUNTED = 2


class Judge:
    """Goes on with states by the lines that come; each line is (pass, label, fits, title behind)."""

    def __init__(self, elder, newer, label, rule):
        self.label = label
        self.only = rule[0] == "only"
        self.under = rule[2]
        self.elder_part, self.kind, self.tokens = elder.line_of(label)
        # Every pass is ahead of a label that is not there.
        self.newer_part, newer_kind = (newer.passes, None)
        if newer.line_of(label) is not None:
            self.newer_part, newer_kind, _ = newer.line_of(label)
        self.meets = newer_kind == self.kind
        self.passes = (elder.passes, newer.passes)

    def first_state(self, title):
        bits = ()
        if self.under:
            bits = (title == "",) * (self.passes[0] + self.passes[1])
        return ("before" if self.kind else "open", False, "", 0, 0, bits)

    def after_elder(self, state, lines):
        """The state behind these lines of the elder program, None if nothing comes of them."""
        home, made, meant, front, rear, bits = state
        for part, label, fits, title in lines:
            fits = fits and (not bits or bits[part])
            if label == self.label and home == "open" and not made:
                if not fits:
                    return None
                made = True
            elif fits and self.is_found_ahead(part, made):
                return None
            bits = changed_bits(bits, part, title)
        return (home, made, meant, front, rear, bits)

    def is_found_ahead(self, part, made):
        """Whether another line that fits, in this pass of elder, keeps the edit from being made."""
        return self.only or part < self.elder_part or (part == self.elder_part and not made)

    def after_newer(self, state, lines):
        """The state behind these lines of the newer program."""
        home, made, meant, front, rear, bits = state
        for part, label, fits, title in lines:
            place = self.passes[0] + part
            fits = fits and (not bits or bits[place])
            if label == self.label and self.meets and home == "open" and meant == "":
                meant, front, rear = met(fits, front, rear)
            elif fits:
                front, rear = self.counted(part, meant, front, rear)
            bits = changed_bits(bits, place, title)
        return (home, made, meant, front, rear, bits)

    def counted(self, part, meant, front, rear):
        """front and rear behind another line of newer that fits, in this pass."""
        if self.only:
            return (min(front + 1, 1 if meant == "fits" else MOST_COUNTED), 0)
        if meant == "unfit" or part < self.newer_part:
            return (1, rear)
        if meant == "fits":
            return (front, rear)
        return (1, rear) if part == self.newer_part else (front, 1)

    def is_dropped(self, state, rows):
        """Whether nothing more is asked of a walk that has come to this state, with these rows open."""
        home, made, meant, front, _, _ = state
        if not made:
            return home == "past" or rows == ()
        return not self.only and meant == "fits" and front == 0 and self.newer_part == 0

    def fate_of(self, state):
        """The fate at the end of a walk."""
        _, _, meant, front, rear, _ = state
        if meant == "fits":
            if front != 1:
                return "kept"
            return "lost" if self.only else "astray"
        astray = front == 1 if self.only else (front, rear) != (0, 0)
        if astray:
            return "astray"
        return "lost" if meant == "unfit" else "gone"


def met(fits, front, rear):
    """(meant, front, rear) behind the line that is meant."""
    if fits:
        return ("fits", min(front, 1), 0)
    return ("unfit", max(front, rear), 0)


def changed_bits(bits, place, title):
    if title is None:
        return bits
    return bits[:place] + (title,) + bits[place + 1:]
