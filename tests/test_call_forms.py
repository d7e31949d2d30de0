"""The interface of settledland/outside.py: calls of wrong forms raise InvalidCall."""

from itertools import product

from settledland.errors import InvalidCall, LandError

from tests.worlds import MARK, OLD, WorldCase, box, net

CALLS = (
    ("fence", (5, 9)),
    ("make", MARK, (5, 9), "net", net(30)),
    ("change", MARK, 3, 1, "size", 5),
    ("take", MARK, 4, 1),
)
NO_WORDS = ("", "Fence", "fence ", "done", "look", "run", "begin", None, 0, True, b"make", ("make",), ["make"], {})
# What can stand nowhere where a pair of integers or an integer must stand.
NO_INTEGERS = (None, True, False, "", "1", (), (1,), [1], {}, b"1", 1.0)
NO_PAIRS = NO_INTEGERS + (
    0,
    5,
    (5,),
    (5, 2, 2),
    [5, 2],
    (5, None),
    (None, 2),
    ("5", 2),
    (5, "2"),
    (True, 2),
    (5, True),
    (5, (2,)),
    ((5, 2),),
    (5.0, 2),
    "52",
    {5: 2, 6: 2},
)
NO_STRINGS = (None, True, 0, 5, (), ("size",), ["size"], b"size", {"size": 1})
NO_VALUES = (True, False, "", "1", (), (1,), [1], {}, b"1", 1.0, ("number", 1), ("none",))


class CallForms(WorldCase):
    def replaced(self, call, at, parts):
        return [call[:at] + (part,) + call[at + 1 :] for part in parts]

    def test_right_calls(self):
        for call in CALLS:
            self.done(call if call[0] == "fence" else call[:1] + ((5, 9),) + call[2:])

    def test_no_tuples_and_no_words(self):
        self.invalid(None, 0, 5, True, "", "fence", (), [], {}, b"fence", ("",), (None,), ((),), (("fence", (5, 9)),))
        for call in CALLS:
            self.invalid(list(call), dict.fromkeys(call), call[:1], call[1:], (call,), str(call))
            self.invalid(*self.replaced(call, 0, NO_WORDS))

    def test_words_of_other_calls(self):
        for call, other in product(CALLS, repeat=2):
            if call != other:
                self.invalid((other[0],) + call[1:])

    def test_number_of_parts(self):
        for call in CALLS:
            self.invalid(*[call[:many] for many in range(len(call))])
            self.invalid(*[call + (part,) for part in (None, 0, "", (), MARK, call[-1])])
            self.invalid(*[call[:at] + call[at + 1 :] for at in range(len(call))])

    def test_marks(self):
        for call in CALLS:
            self.invalid(*self.replaced(call, 1, NO_PAIRS))

    def test_tokens(self):
        self.invalid(*self.replaced(CALLS[1], 2, NO_PAIRS))

    def test_values(self):
        no_tuples = (None, True, 0, "", "code", list(net(30)), dict(net(30)), set(net(30)))
        self.invalid(*self.replaced(CALLS[1], 4, no_tuples))
        pairs = (
            None,
            0,
            "",
            "ab",
            (),
            ("code",),
            ("code", 30, 0),
            ["code", 30],
            {"code": 30, "tag": 1},
            (30, "code"),
            ("code", ("number", 30)),
        )
        for pair in pairs + tuple((part, 30) for part in NO_STRINGS) + tuple(("code", part) for part in NO_VALUES):
            self.invalid(*self.replaced(CALLS[1], 4, [(pair,), (pair,) + net(30)[1:], net(30) + (pair,)]))

    def test_ids_and_versions(self):
        for call, at in product(CALLS[2:], (2, 3)):
            self.invalid(*self.replaced(call, at, NO_INTEGERS))

    def test_fields(self):
        self.invalid(*self.replaced(CALLS[2], 4, NO_STRINGS))

    def test_values_of_changes(self):
        self.invalid(*self.replaced(CALLS[2], 5, NO_VALUES))
        self.invalid(("change", MARK, 3, 1, "port", True), ("change", MARK, 3, 1, "nothing", "5"))

    def test_none_is_right_for_a_value(self):
        self.done(("change", MARK, 3, 1, "port", None))
        self.refused("form", ("change", MARK, 3, 2, "size", None))

    def test_kinds_are_refused(self):
        # The document does not list them among the wrong forms: there is no such kind.
        for part in NO_STRINGS:
            self.refused("form", ("make", MARK, (5, 9), part, ()), ("make", MARK, (5, 9), part, net(30)))

    def test_wrong_forms_of_calls_that_would_be_refused(self):
        self.invalid(
            ("make", OLD, (5, 9), "net", [("code", 30)]),
            ("make", OLD, (5, 0, 0), "net", net(30)),
            ("make", MARK, (5, 0), "net", [("code", 30)]),
            ("change", OLD, 3, 1, 0, 5),
            ("change", MARK, 9, 1, "size", "5"),
            ("change", MARK, 3, 2, "size", (5,)),
            ("take", OLD, 4, None),
            ("take", MARK, 9, True),
        )

    def test_wrong_form_raises_a_land_error(self):
        with self.assertRaises(LandError):
            self.outside.do(("fence",))

    def test_deeds_of_others(self):
        before = self.standing()
        for deed, arguments in (
            (self.outside.make, ("net", [("code", 30)])),
            (self.outside.make, ("net", net("30"))),
            (self.outside.make, ("net", net(True))),
            (self.outside.make, ("box", box((1,)))),
            (self.outside.change, ("3", "size", 5)),
            (self.outside.change, (3, None, 5)),
            (self.outside.change, (3, "size", "5")),
            (self.outside.change, (3, "size", True)),
            (self.outside.take, (None,)),
            (self.outside.take, ((4,),)),
        ):
            with self.assertRaises(InvalidCall, msg=arguments):
                deed(*arguments)
        self.assertEqual(self.standing(), before)
