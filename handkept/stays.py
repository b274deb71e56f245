"""Whether edits of a label stay, for every model and every change of it by a sheet."""

from handkept.edits import check_programs, fate, is_rule, is_way, remembered
from handkept.editforms import EditForm
from handkept.editwalks import EditWalk
from handkept.errors import BadLabel, BadRule, BadSheet, BadWish
from handkept.guesses import Guesses
from handkept.judging import Judge
from handkept.models import is_model
from handkept.reaching import MOST_WALKS, Reach, is_closed
from handkept.rebuilding import OtherWords, RebuiltModels
from handkept.sheets import is_change, is_sheet
from handkept.uses import Uses
from handkept.values import is_ascending, is_tuple_of

WRONG_FATES = {"kept": ("lost", "astray"), "true": ("astray",)}


def stays(elder, newer, sheet, label, rule, wish):
    """("always", table), or ("wrong", elder_model, newer_model, way, fate) with the fewest records."""
    check_programs(elder, newer)
    check_asked(elder, elder.labels, sheet, label, rule, wish)
    walks = EditWalks(elder, newer, sheet, label, rule, wish)
    reach = Reach(walks, False)
    reach.go()
    if reach.wanted is None:
        return ("always", reach.table())
    return walks.wrong_by(reach.steps_to(reach.wanted))


def shows_stays(elder, newer, sheet, label, rule, wish, value):
    """Whether any value is such a result of stays, right by itself."""
    check_programs(elder, newer)
    check_asked(elder, elder.labels, sheet, label, rule, wish)
    if is_tuple_of(value, 2) and value[0] == "always":
        return is_always(elder, newer, sheet, label, rule, wish, value[1])
    if is_tuple_of(value, 5) and value[0] == "wrong":
        return is_wrong(elder, newer, sheet, label, rule, wish, value[1:])
    return False


def check_asked(program, labels, sheet, label, rule, wish):
    """Refuses what cannot be asked of programs with these kinds and labels."""
    check_sheet(program, sheet)
    if label not in labels:
        raise BadLabel(label)
    if not is_rule(rule):
        raise BadRule(rule)
    check_wish(wish)


def check_sheet(program, sheet):
    if not is_sheet(program, sheet):
        raise BadSheet(sheet)


def check_wish(wish):
    if wish not in ("kept", "true"):
        raise BadWish(wish)


def is_always(elder, newer, sheet, label, rule, wish, table):
    """Whether any value is a closed table without a wrong member."""
    if not isinstance(table, tuple):
        return False
    walks = EditWalks(elder, newer, sheet, label, rule, wish)
    for member in table:
        if not walks.has_member(member) or walks.is_wanted(member):
            return False
    return is_ascending(table) and is_closed(walks, table)


def is_wrong(elder, newer, sheet, label, rule, wish, told):
    """Whether any (elder_model, newer_model, way, fate) is a change that goes wrong so."""
    elder_model, newer_model, way, told_fate = told
    if not is_model(elder, elder_model) or not is_model(newer, newer_model):
        return False
    if not is_change(elder, sheet, elder_model, newer_model) or not is_way((label,), way):
        return False
    if remembered(elder, elder_model, way, rule) is None or told_fate not in WRONG_FATES[wish]:
        return False
    return fate(elder, newer, sheet, elder_model, newer_model, way, rule)[0] == told_fate


class EditWalks:
    """All walks of two models, by what the edit remembers."""

    def __init__(self, elder, newer, sheet, label, rule, wish):
        self.programs = (elder, newer)
        self.several = (Uses(elder), Uses(newer))
        self.sheet = sheet
        self.rule = rule
        self.wrong = WRONG_FATES[wish]
        self.judge = Judge(*self.several, label, rule)
        self.guesses = Guesses(self.several, self.judge.tokens, rule)
        self.walks = {}

    def walk_of(self, member):
        return self.walk_by(member[0])

    def walk_by(self, guess):
        if guess not in self.walks:
            if len(self.walks) == MOST_WALKS:
                self.walks = {}
            self.walks[guess] = EditWalk(guess, self.programs, self.several, self.sheet, self.rule, self.judge)
        return self.walks[guess]

    def is_wanted(self, member):
        """Whether a member is wrong by the wish."""
        return member[1] == () and self.judge.fate_of(member[3]) in self.wrong

    def has_member(self, value):
        """Whether any value is a member by its form."""
        if not is_tuple_of(value, 4) or not self.guesses.has(value[0]):
            return False
        _, rows, cells, state = value
        return EditForm(self.walk_of(value), self.judge).has(rows, cells, state)

    def wrong_by(self, steps):
        """What goes wrong by these (step, member), the last of which is wrong."""
        models = RebuiltModels(OtherWords(self.guesses.known), self.sheet, self.several[0])
        path = ()
        home = "before"
        for step, member in steps:
            models.follow(step)
            if home == "before" and member[3][0] == "open":
                home = "open"
                path = models.path_there()
        elder_model, newer_model = models.models()
        state = steps[-1][1][3]
        return ("wrong", elder_model, newer_model, (self.judge.label, path), self.judge.fate_of(state))
