"""What is promised over the whole program, of keepers that are led through orders and writings."""

import copy
import unittest

from handkept.applied import carried, edited
from handkept.cheapest import cheapest
from handkept.edits import fate, remembered
from handkept.errors import BadOffers, NotMade, TooMany
from handkept.journals import read_journal
from handkept.keeper import Keeper
from handkept.marks import with_marks
from handkept.models import text_of, written
from handkept.programs import Program
from handkept.rowstays import row_stays
from handkept.same import same
from handkept.sheets import is_change
from handkept.stays import shows_stays, stays
from handkept.texts import read_model, show_model
from handkept.touched import touched
from handkept.twins import twins

from tests.drawn import LABELS, Drawing, drawn_question
from tests.histories import History, drawn_model, drawn_programs, lead
from tests.questions import QUESTIONS, TOWN, WHOLE

STRIKE = ("strike",)
WRONG = ("lost", "astray")
DRAWN = 250
WRITINGS = 6


def told(keeper):
    return (keeper.program, keeper.model, keeper.text, keeper.edits, keeper.edited, keeper.orders, keeper.journal,
            keeper.wrongs())


def questions():
    """All questions that have an answer, each (question, what stays tells of it)."""
    found = [question for question, _ in QUESTIONS.values()] + [drawn_question(number) for number in range(DRAWN)]
    for question in found:
        try:
            yield question, stays(*question)
        except TooMany:
            pass


def lead_to(keeper, newer):
    """Leads a keeper to another model that is a change of its own, by orders."""
    lead_row_to(keeper, (), keeper.model, newer)


def lead_row_to(keeper, path, row, newer):
    names = [(record[0], record[1][0]) for record in newer]
    present = {(record[0], record[1][0]): record for record in row}
    for name in present:
        if name not in names:
            keeper.go(path + (name,))
    for place, (name, record) in enumerate(zip(names, newer)):
        if name not in present:
            keeper.come(path, place, record)
            continue
        fields = next(fields for kind, _, fields in keeper.program.kinds if kind == name[0])
        for field, word, newer_word in zip(fields, present[name][1][1:], record[1][1:]):
            if word != newer_word:
                keeper.turn(path + (name,), field, newer_word)
        lead_row_to(keeper, path + (name,), present[name][2], record[2])


def edit_all(keeper, label, rule):
    """Edits at all lines of a label of the text written last at which they are made: how many."""
    many = 0
    for way in sorted({way for way, _ in written(keeper.program, keeper.model) if way[0] == label}):
        try:
            keeper.edit(way, rule, STRIKE)
            many += 1
        except NotMade:
            pass
    return many


class EveryModel(unittest.TestCase):
    def test_two_models_of_a_wrong_answer_lead_a_keeper_there(self):
        fates = set()
        for question, answer in questions():
            elder, newer, sheet, _, rule, wish = question
            if answer[0] == "wrong":
                _, elder_model, newer_model, way, wanted = answer
                self.assertTrue(is_change(elder, sheet, elder_model, newer_model))
                keeper = Keeper(elder, elder_model)
                number = keeper.edit(way, rule, STRIKE)
                lead_to(keeper, newer_model)
                self.assertEqual(keeper.model, newer_model)
                keeper.exchange(newer)
                rows = keeper.write()
                self.assertEqual([row[:2] for row in rows], [(number, wanted)])
                self.assertEqual(rows[0][1:], fate(elder, newer, sheet, elder_model, newer_model, way, rule))
                self.assertEqual(keeper.wrongs(), ((0, number, wanted),))
                self.assertTrue(shows_stays(*question, answer))
                fates.add((wanted, wish))
        self.assertEqual(fates, {("lost", "kept"), ("astray", "kept"), ("astray", "true")})

    def test_edits_of_a_label_that_stays(self):
        # One program, and many writings of changes by the sheet.
        led = many = 0
        fates = set()
        for number, (question, answer) in enumerate(questions()):
            elder, newer, sheet, label, rule, wish = question
            if elder == newer and answer[0] == "always":
                for again in range(3):
                    drawing = Drawing(number * 3 + again)
                    keeper = Keeper(elder, drawn_model(drawing, elder))
                    many += self.lead(History(drawing, keeper, sheet), [elder], label, rule)
                    self.assertEqual([row for row in keeper.wrongs() if row[2] == "astray" or wish == "kept"], [])
                    fates |= {row[1] for row in keeper.write()}
                    led += 1
        self.assertGreater(led, 100)
        self.assertGreater(many, 300)
        self.assertLessEqual({"kept", "gone"}, fates)

    def lead(self, history, programs, label, rule):
        """Edits at the lines of a label, and many writings; the programs come one behind the other."""
        keeper = history.keeper
        many = edit_all(keeper, label, rule)
        for at in range(WRITINGS):
            for _ in range(history.chance.randint(0, 3)):
                history.change()
            if at < len(programs):
                keeper.exchange(programs[at])
            ahead = history.keeper.edits
            rows = keeper.write()
            self.check_lines(keeper, ahead, rows)
            many += edit_all(keeper, label, rule)
        return many

    def check_lines(self, keeper, ahead, rows):
        """A kept edit stands at the first line of its way, one that is astray at another one."""
        lines = [way for way, _ in written(keeper.program, keeper.model)]
        for (number, way, rule, deed), own, row in zip(ahead, keeper.edits, rows):
            self.assertEqual((own[0], own[2:], row[0]), (number, (rule, deed), number))
            meant = lines.index(way) if way in lines else None
            if row[1] in ("kept", "astray"):
                self.assertEqual(row[1] == "kept", row[2] == meant)
                self.assertEqual(own[1], lines[row[2]])
            else:
                self.assertEqual((row[1] == "gone", row[2], own[1]), (meant is None, None, way))

    def test_rows_of_programs_that_stay(self):
        led = many = 0
        for number in range(DRAWN * 2):
            drawing = Drawing(number)
            drawing.draw_kinds()
            elder = drawing.program(2)
            # Mostly the same lines, so that some edits stay.
            newer = Program(elder.text.replace(" p", " q")) if drawing.chance.random() < 0.5 else drawing.program(2)
            programs = (elder, newer) if drawing.chance.random() < 0.7 else (elder, newer, elder)
            labels = [label for label in elder.labels if label in newer.labels]
            if not labels:
                continue
            label, rule, sheet = drawing.chance.choice(labels), drawing.rule(), drawing.sheet()
            try:
                answer = row_stays(programs, sheet, label, rule, "kept")
            except TooMany:
                continue
            if answer[0] == "always":
                for _ in range(4):
                    keeper = Keeper(elder, drawn_model(drawing, elder))
                    many += self.lead(History(drawing, keeper, sheet), programs, label, rule)
                    self.assertEqual(keeper.wrongs(), ())
                    led += 1
            else:
                _, i, j, elder_model, newer_model, way, wanted = answer
                keeper = Keeper(programs[i], elder_model)
                keeper.edit(way, rule, STRIKE)
                lead_to(keeper, newer_model)
                keeper.exchange(programs[j])
                self.assertEqual(keeper.write()[0][1], wanted)
        self.assertGreater(led, 50)
        self.assertGreater(many, 50)


class Cheapest(unittest.TestCase):
    def offers(self, drawing, elder, newer, sheet, rules):
        """Offers that are let, drawn."""
        labels = [label for label, _ in rules]
        marks = [mark for label in labels for mark in [
            ("name", label), ("only", label), ("skip", label, 0), ("skip", label, 1), ("under", label, "p"),
            *[("key", label, kind) for kind, _, _ in elder.kinds]]]
        marks += [("still", *leave[1:]) if leave[0] == "turn" else ("stop", *leave) for leave in sheet]
        found = []
        for mark in drawing.chance.sample(marks, len(marks))[:4]:
            offer = (mark, drawing.chance.randint(1, 9))
            try:
                cheapest(elder, newer, sheet, rules, (offer,), "true")
                found.append(offer)
            except BadOffers:
                pass
        return tuple(sorted(found))

    def changed(self, choice, programs, sheet, rules):
        lines = [mark for mark in choice if mark[0] in ("key", "name")]
        programs = [with_marks(program, tuple(mark for mark in lines if mark[1] in program.labels)) for program in programs]
        bars = [("turn", *mark[1:]) if mark[0] == "still" else mark[1:] for mark in choice if mark[0] in ("still", "stop")]
        changed = {}
        for label, (word, skipped, under) in rules:
            own = [mark for mark in choice if mark[1:2] == (label,)]
            under = next((mark[2] for mark in own if mark[0] == "under"), under)
            skipped = tuple(sorted({*skipped, *[mark[2] for mark in own if mark[0] == "skip"]}))
            changed[label] = ("only" if ("only", label) in own else word, skipped, under)
        return programs, tuple(leave for leave in sheet if leave not in bars), changed

    def test_no_wrongs_come_with_the_choice(self):
        led = many = 0
        for number in range(DRAWN // 2):
            drawing = Drawing(number)
            drawing.draw_kinds()
            program, sheet = drawing.program(2), drawing.sheet()
            labels = sorted(drawing.chance.sample(program.labels, min(2, len(program.labels))))
            rules = tuple((label, drawing.rule()) for label in labels)
            try:
                offers = self.offers(drawing, program, program, sheet, rules)
                answer = cheapest(program, program, sheet, rules, offers, "kept") if offers else ("none", ())
            except TooMany:
                continue
            if answer[0] == "none" or not answer[4]:
                continue
            (marked, _), own_sheet, own_rules = self.changed(answer[2], (program, program), sheet, rules)
            for _ in range(4):
                keeper = Keeper(marked, drawn_model(drawing, program))
                history = History(drawing, keeper, own_sheet)
                for _ in range(WRITINGS):
                    many += sum(edit_all(keeper, label, rule) for label, rule in own_rules.items())
                    for _ in range(drawing.chance.randint(0, 3)):
                        history.change()
                    keeper.write()
                self.assertEqual(keeper.wrongs(), ())
                led += 1
            self.check_reasons(answer[4], program, sheet, rules)
        self.assertGreater(led, 40)
        self.assertGreater(many, 200)

    def check_reasons(self, reasons, program, sheet, rules):
        """Two models against each cheaper choice lead a keeper to what goes wrong."""
        for choice, label, elder_model, newer_model, way, wanted in reasons:
            (marked, _), _, own_rules = self.changed(choice, (program, program), sheet, rules)
            keeper = Keeper(marked, elder_model)
            keeper.edit(way, own_rules[label], STRIKE)
            lead_to(keeper, newer_model)
            self.assertEqual(keeper.write()[0][1], wanted)
            self.assertIn(wanted, WRONG)


class Keepers(unittest.TestCase):
    def test_keepers_answer_as_plain_calls_of_their_history(self):
        # Between two writings of one program every edit has the fate that fate tells, with a sheet that lets all happen.
        found = set()
        for number in range(DRAWN):
            drawing = Drawing(number)
            drawing.draw_kinds()
            program = drawing.program(2)
            newer = drawing.program(2, drawing.chance.choice([program.labels, LABELS]))
            sheet = tuple(sorted([(leave, name) for leave in ("come", "go") for name, _, _ in program.kinds] + [
                ("turn", name, field) for name, _, fields in program.kinds for field in fields]))
            model = drawn_model(drawing, program)
            keeper = Keeper(program, model)
            history = History(drawing, keeper, sheet)
            edits = []
            for way in sorted({way for way, _ in written(program, model)})[:8]:
                rule, deed = drawing.rule(), drawing.chance.choice([STRIKE, ("ahead", ("x",)), ("instead", ("y", "z"))])
                try:
                    keeper.edit(way, rule, deed)
                    edits.append((way, rule, deed))
                except NotMade:
                    self.assertIsNone(remembered(program, model, way, rule))
            self.assertEqual(keeper.text, tuple(tuple(line.split()) for line in text_of(program, model).split("\n") if line))
            for _ in range(4):
                history.change()
            keeper.exchange(newer)
            rows = keeper.write()
            fates, lines = carried(program, newer, sheet, model, keeper.model, tuple(edits))
            self.assertEqual(rows, tuple((at, *row) for at, row in enumerate(fates)))
            self.assertEqual(keeper.edited, lines)
            found |= {row[1] for row in rows}
        self.assertEqual(found, {"kept", "gone", "lost", "astray"})

    def test_edited_is_that_of_the_text(self):
        for number in range(DRAWN):
            drawing, program, _ = drawn_programs(number)
            model = drawn_model(drawing, program)
            keeper = Keeper(program, model)
            edits = []
            for way in [way for way, _ in written(program, model)][:8]:
                if remembered(program, model, way, WHOLE) is not None and way not in [edit[0] for edit in edits]:
                    edits.append((way, WHOLE, drawing.chance.choice([STRIKE, ("behind", ("x",)), ("instead", ("y",))])))
                    keeper.edit(*edits[-1])
            self.assertEqual(keeper.edited, edited(program, model, tuple(edits)))
            self.assertEqual(keeper.edits, tuple((at, *edit) for at, edit in enumerate(edits)))

    def test_undone_orders_and_trials_leave_nothing(self):
        for number in range(DRAWN):
            drawing, *programs = drawn_programs(number)
            keeper = Keeper(programs[0], drawn_model(drawing, programs[0]))
            history = History(drawing, keeper)
            plain = Keeper(programs[0], keeper.model)
            for _ in range(6):
                many = len(keeper.orders)
                ahead = told(keeper)
                drawn = drawing.chance.random()
                lead(history, programs, drawing.chance.randint(0, 5)) if drawn < 0.5 else self.in_a_trial(history, programs)
                if drawn < 0.25:
                    while len(keeper.orders) > many:
                        keeper.undo()
                if not 0.25 <= drawn < 0.5:
                    self.assertEqual(told(keeper), ahead)
            for order in keeper.orders:
                plain.do(order)
            self.assertEqual(plain, keeper)
            self.assertEqual(told(plain), told(keeper))
            self.assertEqual(told(read_journal(keeper.journal)), told(keeper))

    def in_a_trial(self, history, programs):
        keeper, chance = history.keeper, history.chance
        with keeper.trial():
            for _ in range(chance.randint(0, min(3, len(keeper.orders)))):
                keeper.undo()
            lead(history, programs, chance.randint(0, 5))
            with keeper.trial() as inner:
                lead(history, programs, 2)
                if chance.random() < 0.5:
                    inner.keep()
            with self.assertRaises(ZeroDivisionError):
                keeper.tried(lambda own: [own.write(), 1 // 0], keep=True)

    def test_what_is_shown_is_read_back(self):
        for number in range(DRAWN):
            drawing, *programs = drawn_programs(number)
            keeper = Keeper(programs[0], drawn_model(drawing, programs[0]))
            lead(History(drawing, keeper), programs, 12)
            self.assertEqual(Program(keeper.program.text), keeper.program)
            self.assertEqual(read_model(keeper.program, show_model(keeper.program, keeper.model)), keeper.model)
            self.assertEqual(read_journal(keeper.journal), keeper)


class Answers(unittest.TestCase):
    def test_models_of_answers_are_shown_and_read_back(self):
        program = TOWN
        models = [row[1] for row in twins(program, "s")[0] + touched(program, "shop", "owner")[0] if row[1] is not None]
        models += [row[1] for row in same(program, Program(program.text + " town.key"))[0] if row[1] is not None]
        self.assertEqual(len(models), 3)
        for model in models:
            self.assertEqual(read_model(program, show_model(program, model)), model)

    def test_what_turns_alone_is_touched(self):
        # A keeper of which one field turns has other lines of those labels alone that touched tells.
        found = set()
        for number in range(DRAWN):
            drawing, program, _ = drawn_programs(number)
            keeper = Keeper(program, drawn_model(drawing, program))
            history = History(drawing, keeper, tuple(("turn", name, field) for name, _, fields in program.kinds for field in fields))
            ahead = written(program, keeper.model)
            many = len(keeper.orders)
            history.turn()
            if len(keeper.orders) > many:
                _, path, field, _ = keeper.orders[-1]
                keeper.write()
                behind = written(program, keeper.model)
                unlike = {label for label in program.labels
                          if [words for way, words in ahead if way[0] == label] != [words for way, words in behind if way[0] == label]}
                rows = touched(program, path[-1][0], field)[0]
                self.assertLessEqual(unlike, {row[0] for row in rows if row[1] is not None})
                found.add(bool(unlike))
        self.assertEqual(found, {True, False})

    def test_arguments_stay_as_they_are(self):
        for name, (question, _) in list(QUESTIONS.items())[:8]:
            elder, newer, sheet, label, rule, wish = question
            kept = copy.deepcopy((sheet, label, rule, wish))
            first = stays(*question)
            self.assertEqual(stays(*question), first, name)
            self.assertEqual(row_stays((elder, elder), sheet, label, rule, wish), row_stays((elder, elder), sheet, label, rule, wish))
            self.assertEqual((sheet, label, rule, wish), kept)


if __name__ == "__main__":
    unittest.main()
