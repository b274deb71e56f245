"""The marks that were missing: with which the orders of a keeper bring no wrongs."""

from handkept.errors import BadOffers, NotMade
from handkept.offers import Asked
from handkept.states import done, first_state


def first_choice(program, model, orders, offers):
    """("choice", price, choice, reasons), or ("none", reasons): the first choice without wrongs."""
    programs = [program] + [order[1] for order in orders if order[0] == "exchange"]
    rules = [(order[1][0], order[2]) for order in orders if order[0] == "edit"]
    asked = Asked(tuple(programs), (), tuple(rules))
    if not asked.is_offers(offers):
        raise BadOffers(offers)
    reasons = []
    for price, choice, changed in asked.choices(offers):
        wrong = first_wrong(changed.programs[0], model, orders_with(orders, changed))
        if wrong is None:
            return ("choice", price, choice, tuple(reasons))
        reasons.append((choice, wrong))
    return ("none", tuple(reasons))


def orders_with(orders, changed):
    """The orders with the programs and the rules of the edits that are changed, in their sequence."""
    programs = list(changed.programs[1:])
    rules = list(changed.rules)
    found = []
    for order in orders:
        if order[0] == "exchange":
            found.append(("exchange", programs.pop(0)))
        elif order[0] == "edit":
            _, way, _, deed = order
            _, rule = rules.pop(0)
            found.append(("edit", way, rule, deed))
        else:
            found.append(order)
    return found


def first_wrong(program, model, orders):
    """The first (writing, number, fate) that goes wrong as these orders are done, None without one."""
    state = first_state(program, model)
    for order in orders:
        try:
            state = done(state, order)
        except NotMade:
            return (state["writings"], state["made"], "unmade")
        if state["faults"]:
            return state["faults"][0]
    return None
