"""The cheapest marks and bars with which edits stay."""

from handkept.edits import check_programs
from handkept.errors import BadOffers, BadRules
from handkept.offers import Asked, is_rules
from handkept.stays import check_sheet, check_wish, is_always, is_wrong, stays
from handkept.values import is_same, is_tuple_of


def cheapest(elder, newer, sheet, rules, offers, wish):
    """("choice", price, choice, tables, reasons), or ("none", reasons)."""
    reasons = []
    for price, choice, asked in checked_choices(elder, newer, sheet, rules, offers, wish):
        tables, reason = _told(choice, asked, wish)
        if reason is None:
            return ("choice", price, choice, tables, tuple(reasons))
        reasons.append(reason)
    return ("none", tuple(reasons))


def shows_cheapest(elder, newer, sheet, rules, offers, wish, value):
    """Whether any value is such a result of cheapest, right by itself."""
    choices = checked_choices(elder, newer, sheet, rules, offers, wish)
    if is_tuple_of(value, 2) and value[0] == "none":
        return _are_reasons(choices, wish, value[1])
    if not is_tuple_of(value, 5) or value[0] != "choice" or not isinstance(value[4], tuple):
        return False
    _, price, choice, tables, reasons = value
    if len(reasons) >= len(choices) or not is_same(choices[len(reasons)][:2], (price, choice)):
        return False
    asked = choices[len(reasons)][2]
    return _are_reasons(choices[:len(reasons)], wish, reasons) and _are_tables(asked, wish, tables)


def checked_choices(elder, newer, sheet, rules, offers, wish):
    """All choices, as handkept/offers.py tells them. Refuses what cannot be asked."""
    check_programs(elder, newer)
    check_sheet(elder, sheet)
    if not is_rules(elder, rules):
        raise BadRules(rules)
    asked = Asked((elder, newer), sheet, rules)
    if not asked.is_offers(offers):
        raise BadOffers(offers)
    check_wish(wish)
    return asked.choices(offers)


def _told(choice, asked, wish):
    """(tables, None) if all labels stay with a choice, otherwise (None, the reason against it)."""
    tables = []
    for label, rule in asked.rules:
        told = stays(*asked.programs, asked.sheet, label, rule, wish)
        if told[0] == "wrong":
            return (None, (choice, label, *told[1:]))
        tables.append(told[1])
    return (tuple(tables), None)


def _are_tables(asked, wish, value):
    if not is_tuple_of(value, len(asked.rules)):
        return False
    return all([is_always(*asked.programs, asked.sheet, label, rule, wish, table)
                for (label, rule), table in zip(asked.rules, value)])


def _are_reasons(choices, wish, value):
    if not is_tuple_of(value, len(choices)):
        return False
    return all([_is_reason(choice, asked, wish, reason) for (_, choice, asked), reason in zip(choices, value)])


def _is_reason(choice, asked, wish, value):
    if not is_tuple_of(value, 6) or not is_same(choice, value[0]):
        return False
    label = value[1]
    if label not in [own for own, _ in asked.rules]:
        return False
    rule = asked.rules_of(label)[0]
    told = value[2:]
    return is_wrong(*asked.programs, asked.sheet, label, rule, wish, told)
