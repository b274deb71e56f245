"""A second walker of two models, written apart from the package's: slow, by the words of section 8 alone.

It reads the texts of programs itself. What it tells is held against what the package tells.
"""

import itertools
import string


class Text:
    """A program as its text has it: passes are (names of cells, statements by heading); a statement is (words, then,
    other)."""

    def __init__(self, program):
        self.rows = [(len(line) - len(line.lstrip(" ")), line.split()) for line in program.text.split("\n")]
        self.kinds = {name: (outer, ("key",) + fields) for name, outer, fields in program.kinds}
        self.passes = []
        at = 0
        while self.rows[at][1][0] in ("kind", "field"):
            at += 1
        while at < len(self.rows):
            at = self.read_pass(at + 1)
        self.tests = []
        self.lines = []
        for number, (_, blocks) in enumerate(self.passes):
            for heading, statements in blocks.items():
                self.sort(number, heading, statements)

    def read_pass(self, at):
        cells, blocks = [], {}
        while at < len(self.rows) and self.rows[at][0] == 2:
            words = self.rows[at][1]
            if words[0] == "cell":
                cells.append(words[1])
                at += 1
            else:
                blocks[tuple(words)], at = self.read_block(at + 1, 4)
        self.passes.append((cells, blocks))
        return at

    def read_block(self, at, blanks):
        block = []
        while at < len(self.rows) and self.rows[at][0] == blanks and self.rows[at][1] != ["else"]:
            words = self.rows[at][1]
            then, other = [], []
            at += 1
            if words[0] == "if":
                then, at = self.read_block(at, blanks + 2)
                if at < len(self.rows) and self.rows[at] == (blanks, ["else"]):
                    other, at = self.read_block(at + 1, blanks + 2)
            block.append((words, then, other))
        return block, at

    def sort(self, number, heading, statements):
        for words, then, other in statements:
            if words[0] == "if" and words[2] == "is":
                self.tests.append((words[1], words[3], heading))
            if words[0] in ("line", "head"):
                self.lines.append((*parted(words, heading), number, heading))
            self.sort(number, heading, then)
            self.sort(number, heading, other)

    def chain(self, kind):
        return self.chain(self.kinds[kind][0]) + [kind] if kind else []

    def refs(self, kind):
        return [kind + "." + field for field in self.kinds[kind][1]]

    def line(self, label):
        return next((line for line in self.lines if line[0] == label), None)


def parted(words, heading):
    """(label, kind, tokens) of a line or a head."""
    if words[0] == "line":
        return words[1], heading[1] if len(heading) > 1 else "", words[2:]
    return words[1], "" if words[2] == "-" else words[2], words[3:]


def is_ref(token):
    return "." in token


class PlainWalk:
    def __init__(self, elder, newer, sheet, label, rule):
        self.texts = (Text(elder), Text(newer))
        self.sheet = sheet
        self.label = label
        self.word, self.skipped, self.under = rule
        _, self.kind, self.tokens, self.part, _ = self.texts[0].line(label)
        self.newer_line = self.texts[1].line(label)

    def heading(self, tokens):
        return self.under != "" and (tokens[0] == self.under or is_ref(tokens[0]))

    def holds(self, at, tokens):
        return len(tokens) == len(self.tokens) and at not in self.skipped

    def known(self):
        known = {self.under} - {""}
        for text in self.texts:
            known |= {word for _, word, _ in text.tests}
            for _, _, tokens, _, _ in text.lines:
                known |= {token for at, token in enumerate(tokens) if not is_ref(token)
                          and (self.holds(at, tokens) or at == 1 and self.heading(tokens))}
        return sorted(known)

    def guesses(self):
        letters = list(string.ascii_uppercase[:len(self.tokens) + 1])
        sorts = [[""] if at in self.skipped else self.known() + letters if is_ref(token) else [token]
                 for at, token in enumerate(self.tokens)]
        titles = [""]
        if self.under:
            titles += self.known()
            if any(len(line[2]) > 1 and self.heading(line[2]) and is_ref(line[2][1])
                   for text in self.texts for line in text.lines):
                titles += letters
        for words in itertools.product(*sorts):
            held = {(token, word) for at, (token, word) in enumerate(zip(self.tokens, words)) if at not in self.skipped}
            for title in titles if len(held) == len({token for token, _ in held}) else []:
                order = [word for word in dict.fromkeys(words + (title,)) if word in letters]
                if order == letters[:len(order)]:
                    yield words, title

    def naming(self, text, ref, guess):
        """All (word, heading): what names a word for a REF, and where this stands."""
        words, title = guess
        found = [(word, heading) for own, word, heading in text.tests if own == ref]
        for _, _, tokens, _, heading in text.lines:
            for at, token in enumerate(tokens):
                if token == ref:
                    found += [(words[at], heading)] if self.holds(at, tokens) else []
                    found += [(self.under, heading)] if self.under and at == 0 else []
                    found += [(title, heading)] if title and at == 1 and self.heading(tokens) else []
        return found

    def named(self, text, ref, guess):
        return {word for word, _ in self.naming(text, ref, guess)}

    def lasts(self, text, ref, guess):
        kind = ref.split(".")[0]
        return any(heading == ("close", kind) or len(heading) > 1 and kind in text.chain(heading[1])[:-1]
                   for _, heading in self.naming(text, ref, guess))

    def lines_of(self, text, heading, cells, worths):
        """All (label, kind, words, number of the pass), in their sequence; cells are changed."""
        lines = []
        for number, (names, blocks) in enumerate(text.passes):
            waiting = list(blocks.get(heading, ()))
            while waiting:
                words, then, other = waiting.pop(0)
                if words[0] == "set":
                    cells[number][names.index(words[1])] = int(words[2])
                elif words[0] == "if":
                    own = str(cells[number][names.index(words[1])]) if words[2] == "=" else worths[words[1]]
                    waiting = (then if own == words[3] else other) + waiting
                else:
                    label, kind, tokens = parted(words, heading)
                    lines.append((label, kind, [worths.get(token, token) for token in tokens], number))
        return lines

    def step(self, guess, records, cells, state, heading, which):
        """(cells, state) behind a step, None if nothing comes of it; records are the open ones with all classes."""
        state = dict(zip(("home", "made", "meant", "front", "rear"), state), bits=list(state[5]))
        cells = [[list(worths) for worths in own] for own in cells]
        for side, text in enumerate(self.texts):
            if which == ("come", "gone")[side]:
                continue
            worths = {}
            for record in records:
                worths.update(zip(text.refs(record[1]), record[2 + side]))
            for line in self.lines_of(text, heading, cells[side], worths):
                if not self.take(guess, state, side, *line):
                    return None
        told = (*[state[name] for name in ("home", "made", "meant", "front", "rear")], tuple(state["bits"]))
        return tuple(tuple(tuple(worths) for worths in own) for own in cells), told

    def take(self, guess, state, side, label, kind, words, number):
        bit = number + (len(self.texts[0].passes) if side else 0)
        fits = len(words) == len(self.tokens) and all(
            at in self.skipped or word == guess[0][at] for at, word in enumerate(words))
        fits = fits and (not self.under or state["bits"][bit])
        if self.under and words[0] == self.under:
            title = words[1] if len(words) > 1 else ""
            state["bits"][bit] = title == guess[1] and (title != "" or len(words) == 1)
        of_home = state["home"] == "open" and (label, kind) == (self.label, self.kind)
        if side:
            self.take_newer(state, of_home, fits, number)
            return True
        if of_home and not state["made"]:
            state["made"] = True
            return fits
        behind = number > self.part or number == self.part and state["made"]
        return not fits or self.word == "first" and behind

    def take_newer(self, state, of_home, fits, number):
        if of_home and state["meant"] == "":
            state["meant"] = "fits" if fits else "unfit"
            if self.word == "only" and fits:
                state["front"] = min(1, state["front"])
            if self.word == "first":
                if not fits:
                    state["front"] = max(state["front"], state["rear"])
                state["rear"] = 0
        elif fits and self.word == "only":
            state["front"] = min(state["front"] + 1, 1 if state["meant"] == "fits" else 2)
        elif fits:
            part = self.newer_line[3] if self.newer_line else len(self.texts[1].passes)
            if state["meant"] == "unfit" or number < part or state["meant"] == "" and number == part:
                state["front"] = 1
            elif state["meant"] == "":
                state["rear"] = 1

    def member(self, guess, rows, behind):
        if behind is None:
            return []
        home, made, meant, front, _, _ = behind[1]
        if not made and (home == "past" or rows == ()):
            return []
        if self.word == "first" and made and meant == "fits" and front == 0 and self.newer_line[3] == 0:
            return []
        return [(guess, rows, *behind)]

    def first(self):
        found = []
        for guess in self.guesses():
            bits = (guess[1] == "",) * sum(len(text.passes) for text in self.texts) if self.under else ()
            state = ("before" if self.kind else "open", False, "", 0, 0, bits)
            cells = [[[0] * len(names) for names, _ in text.passes] for text in self.texts]
            found += self.member(guess, (("", "", (), (), ()),), self.step(guess, [], cells, state, ("begin",), "both"))
        return found

    def behind(self, member):
        """All members that come of this one."""
        guess, rows, cells, state = member
        if rows == ():
            return []
        found = self.opened(*member)
        which, kind = rows[-1][:2]
        if kind:
            told = self.step(guess, rows[1:], cells, state, ("close", kind), which)
            if told and kind == self.kind and state[0] == "open":
                told = told[0], ("past", *told[1][1:])
            found += self.member(guess, rows[:-1], told)
        elif state[0] != "before":
            found += self.member(guess, (), self.step(guess, [], cells, state, ("end",), "both"))
        return found

    def opened(self, guess, rows, cells, state):
        found = []
        for kind, (outer, _) in self.texts[0].kinds.items():
            if outer != rows[-1][1]:
                continue
            for which in self.whiches(rows[-1][0], kind):
                for pairs in itertools.product(*self.pairs(guess, which, kind)):
                    key = max(pairs[0])
                    if key and (kind, key) in rows[-1][4]:
                        continue
                    words = [() if which == ("come", "gone")[side] else tuple(pair[side] for pair in pairs)
                             for side in (0, 1)]
                    used = tuple(sorted(rows[-1][4] + (((kind, key),) if key else ())))
                    lasting = [tuple(word if self.lasts(text, ref, guess) else "" for word, ref in
                                     zip(own, text.refs(kind))) for text, own in zip(self.texts, words)]
                    ahead = rows[:-1] + ((*rows[-1][:4], used),)
                    homes = [state[0]]
                    homes += ["open"] if state[0] == "before" and kind == self.kind and which != "come" else []
                    for home in homes:
                        told = self.step(guess, [*rows[1:], (which, kind, *words)], cells, (home, *state[1:]),
                                         ("open", kind), which)
                        found += self.member(guess, ahead + ((which, kind, *lasting, ()),), told)
        return found

    def whiches(self, outer, kind):
        if outer in ("gone", "come"):
            return [outer]
        return ["both"] + [which for which, leave in (("gone", "go"), ("come", "come")) if (leave, kind) in self.sheet]

    def pairs(self, guess, which, kind):
        found = []
        for ref in self.texts[0].refs(kind):
            named = [{""} | (self.named(text, ref, guess) if which != ("come", "gone")[side] else set())
                     for side, text in enumerate(self.texts)]
            if which == "both" and ("turn", kind, ref.split(".")[1]) not in self.sheet:
                found.append({tuple(word if word in own else "" for own in named) for word in named[0] | named[1]})
            else:
                found.append(set(itertools.product(*named)))
        return found

    def table(self, most):
        return table_of(self, most)


class PlainTwins(PlainWalk):
    """A walker of one model, by the words of section 11: whatever is held of elder is held of it."""

    def __init__(self, program, label):
        super().__init__(program, program, (), label, ("first", (), ""))

    def member_of(self, words, rows, cells, seen, heading, records):
        text = self.texts[0]
        cells = [list(worths) for worths in cells]
        worths = {ref: word for record in records for ref, word in zip(text.refs(record[0]), record[1])}
        for label, _, told, _ in self.lines_of(text, heading, cells, worths):
            if tuple(told) == words and seen.count(label) < 2:
                seen = tuple(sorted(seen + (label,)))
        return words, rows, tuple(tuple(worths) for worths in cells), seen

    def first(self):
        cells = [[0] * len(names) for names, _ in self.texts[0].passes]
        return [self.member_of(words, (("", (), ()),), cells, (), ("begin",), []) for words, _ in self.guesses()]

    def behind(self, member):
        words, rows, cells, seen = member
        if rows == ():
            return []
        outer, _, used = rows[-1]
        if len(rows) == 1:
            found = [self.member_of(words, (), cells, seen, ("end",), [])]
        else:
            found = [self.member_of(words, rows[:-1], cells, seen, ("close", outer), rows[1:])]
        for kind, (within, _) in self.texts[0].kinds.items():
            for own in itertools.product(*self.pairs((words, ""), "gone", kind)) if within == outer else []:
                own = tuple(pair[0] for pair in own)
                if (kind, own[0]) not in used:
                    now_used = tuple(sorted(used + (((kind, own[0]),) if own[0] else ())))
                    lasting = tuple(word if self.lasts(self.texts[0], ref, (words, "")) else ""
                                    for word, ref in zip(own, self.texts[0].refs(kind)))
                    ahead = (*rows[:-1], (*rows[-1][:2], now_used), (kind, lasting, ()))
                    found.append(self.member_of(words, ahead, cells, seen, ("open", kind), [*rows[1:], (kind, own)]))
        return found


def table_of(walk, most):
    """The least closed table, None if it has more members than that."""
    found = dict.fromkeys(walk.first())
    waiting = list(found)
    while waiting and len(found) <= most:
        for member in walk.behind(waiting.pop()):
            if member not in found:
                found[member] = True
                waiting.append(member)
    return tuple(sorted(found)) if len(found) <= most else None
