"""What is asked of stays, with what it has to tell: "always", or (fate, how many records its models have)."""

from handkept.programs import Program

from tests.samples import TOWNS

TOWN = Program(TOWNS)
SHOPS = (("come", "shop"), ("go", "shop"))
OWNER = (("turn", "shop", "owner"),)

WHOLE = ("first", (), "")
ONLY = ("only", (), "")


def one_kind(*lines):
    told = [line if line == "pass" else "  " + line for line in ("pass", *lines)]
    return Program("\n".join(["kind a", "  field x", *told]))


KEYS = one_kind("open a", "  line l a.key")
FIELDS = one_kind("open a", "  line l a.x")
TITLED = one_kind("open a", "  line h in a.key", "  line l a.x")
HEADED = Program("kind a\nkind b in a\npass\n  open b\n    head h a b.key\n    line l b.key p")
TOLD = one_kind("cell c 2", "begin", "  line top top", "open a", "  if c = 0", "    head h - first", "    set c 1",
                "  line l a.key a.x")
TESTED = one_kind("open a", "  if a.x is p", "    line l a.key p", "  else", "    line m a.key q")
CLOSED = one_kind("open a", "  line l a.x", "close a", "  line m a.x")
ENDED = one_kind("begin", "  line t p", "open a", "  line l a.x", "end", "  line e q")
TWICE = one_kind("open a", "  line l a.key", "pass", "open a", "  line m a.key a.x")
MOVED = one_kind("open a", "  line m a.key a.x", "pass", "open a", "  line l a.key")
WITHOUT = one_kind("open a", "  line m a.key a.x")
LONGER = one_kind("open a", "  line l a.key p")
ABOVE = one_kind("begin", "  line h in rome now", "open a", "  line l a.key", "  line m a.x q in")
AGAIN = one_kind("open a", "  line l a.x", "end", "  line e q", "pass", "open a", "  line m a.x", "end", "  line f r")

ALL = (("come", "a"), ("go", "a"), ("turn", "a", "x"))
COME, GO, TURN = ((leave,) for leave in ALL)

QUESTIONS = {
    "the example": ((TOWN, TOWN, SHOPS + OWNER, "s", WHOLE, "kept"), ("lost", 2)),
    "the example, skipped": ((TOWN, TOWN, SHOPS + OWNER, "s", ("first", (1,), ""), "kept"), ("astray", 4)),
    "the example, the towns": ((TOWN, TOWN, SHOPS + OWNER, "t", WHOLE, "kept"), "always"),
    "the example, towns beside shops": ((TOWN, TOWN, SHOPS, "t", ("only", (), ""), "kept"), "always"),
    "the example, no owner turns": ((TOWN, TOWN, SHOPS, "s", WHOLE, "kept"), ("astray", 4)),
    "the example, nothing happens": ((TOWN, TOWN, (), "s", WHOLE, "kept"), "always"),
    "the example, true alone": ((TOWN, TOWN, OWNER, "s", WHOLE, "true"), ("astray", 4)),
    "keys": ((KEYS, KEYS, ALL, "l", WHOLE, "kept"), "always"),
    "keys, only": ((KEYS, KEYS, ALL, "l", ONLY, "kept"), "always"),
    "keys, skipped": ((KEYS, KEYS, COME, "l", ("first", (0,), ""), "kept"), ("astray", 2)),
    "keys, skipped, only": ((KEYS, KEYS, COME, "l", ("only", (0,), ""), "kept"), ("lost", 2)),
    "keys, skipped, only, true": ((KEYS, KEYS, COME, "l", ("only", (0,), ""), "true"), "always"),
    "keys, skipped, going": ((KEYS, KEYS, GO, "l", ("first", (0,), ""), "kept"), ("astray", 2)),
    "fields that turn": ((FIELDS, FIELDS, TURN, "l", WHOLE, "kept"), ("lost", 1)),
    "fields that turn, true": ((FIELDS, FIELDS, TURN, "l", WHOLE, "true"), ("astray", 2)),
    "fields, more that come": ((FIELDS, FIELDS, COME, "l", WHOLE, "kept"), ("astray", 2)),
    "fields, more that come, only": ((FIELDS, FIELDS, COME, "l", ONLY, "kept"), ("lost", 2)),
    "fields, some go": ((FIELDS, FIELDS, GO, "l", WHOLE, "kept"), ("astray", 2)),
    "fields, some go, only": ((FIELDS, FIELDS, GO, "l", ONLY, "kept"), "always"),
    "titles": ((TITLED, TITLED, TURN, "l", ("first", (), "in"), "true"), "always"),
    "titles of which the field turns": ((TITLED, TITLED, TURN, "l", ("first", (0,), "in"), "kept"), "always"),
    "titles, all happens": ((TITLED, TITLED, (("come", "a"), ("go", "a")), "l", ("first", (), "in"), "kept"), "always"),
    "titles, without them": ((TITLED, TITLED, (("come", "a"), ("go", "a")), "l", WHOLE, "kept"), ("astray", 2)),
    "a title that is a word": ((TITLED, TITLED, COME, "h", ("first", (), "in"), "kept"), ("lost", 2)),
    "titles of longer lines": ((ABOVE, ABOVE, GO, "l", ("first", (), "in"), "kept"), ("lost", 2)),
    "titles of longer lines, words of three": ((ABOVE, ABOVE, GO, "m", ("only", (2,), "in"), "kept"), ("lost", 2)),
    "a line in a later pass": ((AGAIN, AGAIN, COME + TURN, "l", WHOLE, "true"), ("astray", 1)),
    "a line in an earlier pass": ((AGAIN, AGAIN, COME + TURN, "m", ("first", (0,), ""), "kept"), "always"),
    "ends of both passes": ((AGAIN, AGAIN, GO, "l", ONLY, "true"), "always"),
    "heads": ((HEADED, HEADED, (("come", "b"),), "h", WHOLE, "kept"), ("astray", 3)),
    "heads that go": ((HEADED, HEADED, (("go", "b"),), "h", WHOLE, "true"), ("astray", 4)),
    "a head at the first record": ((TOLD, TOLD, ALL, "h", WHOLE, "kept"), "always"),
    "ifs": ((TESTED, TESTED, TURN, "l", WHOLE, "kept"), "always"),
    "ifs, skipped": ((TESTED, TESTED, TURN, "l", ("first", (1,), ""), "kept"), ("astray", 1)),
    "a close": ((CLOSED, CLOSED, COME, "m", WHOLE, "kept"), "always"),
    "begin": ((ENDED, ENDED, ALL, "t", WHOLE, "kept"), "always"),
    "begin, only": ((ENDED, ENDED, COME, "t", ONLY, "kept"), ("lost", 1)),
    "end": ((ENDED, ENDED, COME, "e", WHOLE, "kept"), ("astray", 1)),
    "end, only, true": ((ENDED, ENDED, COME, "e", ONLY, "true"), "always"),
    "another pass": ((TWICE, MOVED, ALL, "l", WHOLE, "kept"), "always"),
    "another pass, skipped": ((TWICE, TWICE, ALL, "m", ("first", (1,), ""), "kept"), "always"),
    "the label is missing": ((TWICE, WITHOUT, ALL, "l", WHOLE, "kept"), "always"),
    "the label is missing, a line is longer": ((WITHOUT, LONGER, ALL, "m", WHOLE, "kept"), ("astray", 1)),
    "a line is longer": ((KEYS, LONGER, (), "l", WHOLE, "kept"), ("lost", 1)),
    "a line is longer, true": ((KEYS, LONGER, ALL, "l", WHOLE, "true"), "always"),
    "no model at all": ((one_kind("begin", "  line t p"), one_kind("begin", "  line t q"), (), "t", WHOLE, "kept"),
                        ("lost", 0)),
    "an edit that is never made": ((one_kind("begin", "  line t p", "  line s p"),) * 2 + ((), "s", WHOLE, "kept"),
                                   "always"),
}
