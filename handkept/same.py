"""Whether two programs write the same."""

from handkept.comparing import WholeWalks, is_unlike, writes_unlike
from handkept.edits import check_programs
from handkept.labelrows import shows_rows, told_rows
from handkept.models import is_model
from handkept.samewalks import SameWalk

NOTHING = (None,)


def same(elder, newer):
    """(rows, table): for each label of elder a model of which both texts do not have the same lines of it."""
    return told_rows(checked_walks(elder, newer), elder.labels, is_unlike, NOTHING)


def shows_same(elder, newer, value):
    """Whether any value is such a result of same, right by itself."""
    return shows_rows(checked_walks(elder, newer), elder.labels, is_unlike, NOTHING,
                      lambda label, models: is_shown(elder, newer, label, models[0]), value)


def checked_walks(elder, newer):
    """The walks by both programs. Refuses programs of other kinds."""
    check_programs(elder, newer)
    return WholeWalks(SameWalk(elder, newer), ())


def is_shown(elder, newer, label, model):
    """Whether any value is a model that shows lines of a label which are not the same."""
    return is_model(elder, model) and writes_unlike((elder, newer), (model, model), label)
