"""Wrong inputs of each kind."""

# Objects that are neither logs nor facts nor a place nor a certificate.
STRANGE = [None, True, False, 0, 1, -1, 10 ** 59, "", "a", "push", "cycle", (), {"x": 1}, {"x": [[]]}, [[]], [None],
           ([],), (None,), ((), ()), [[[[[["a"]]]]]], ((((("a", 0),),),),), {"a": {"a": {"a": {}}}}]

WRONG_ENTRIES = [
    None, True, 0, "push", "ab", [], (), {}, ["push", "x"], ["size", 0], {"push": "x"},
    ("push",), ("push", "x", "y"), ("pop",), ("size",), ("size", 0, 0), ("steal",), ("steal", "b"),
    ("steal", "b", "x", "y"), ("push", 1), ("push", True), ("push", None), ("push", ["x"]), ("push", ("x",)),
    ("push", {"x": 1}), ("push", ""), ("push", "X"), ("push", "x1"), ("push", "x y"), ("push", "x\n"),
    ("push", "abcdefghi"),
    ("pop", 1), ("pop", None), ("pop", ["x"]), ("pop", ""), ("pop", "abcdefghi"),
    ("size", -1), ("size", 61), ("size", 10 ** 59), ("size", True), ("size", False), ("size", "1"), ("size", None),
    ("size", [1]), ("size", (1,)), ("steal", "b", 1), ("steal", 1, "x"), ("steal", ["b"], "x"), ("steal", "b", ["x"]),
    ("steal", {"b": 1}, "x"), ("steal", "b", None), ("steal", "", "x"), ("steal", "b", ""), ("steal", "abcdefghi", "x"),
    ("drop", "x"), ("PUSH", "x"), ("", "x"), (None, "x"), (True, "x"), (0, 0), (["push"], "x"), (("push",), "x"),
    (("push", "x"),), ("push", ("push", "x")), ("push", "x", None), ("x", "push"),
]

WRONG_NAMES = ["", "A", "aB", "a1", "1", "a b", " a", "a ", "a\n", "a_", "abcdefghi", "?"]

# Each item of these entries is misplaced, although each entry has its form.
WRONG_ITEMS = [
    {"a": [("push", "x"), ("push", "x")]},
    {"a": [("push", "x"), ("pop", "x"), ("push", "x")]},
    {"a": [("push", "x")], "b": [("push", "x")]},
    {"a": [("push", "x")], "b": [("steal", "a", "x"), ("push", "x")]},
    {"a": [("pop", "x")]},
    {"a": [("pop", "x"), ("push", "x")]},
    {"a": [("push", "x")], "b": [("pop", "x")]},
    {"a": [("push", "x"), ("pop", "x"), ("pop", "x")]},
    {"a": [("push", "x"), ("pop", "x")], "b": [("steal", "a", "x")]},
    {"a": [("push", "x")], "b": [("steal", "a", "x"), ("steal", "a", "x")]},
    {"a": [("push", "x")], "b": [("steal", "a", "x")], "c": [("steal", "a", "x")]},
    {"a": [], "b": [("steal", "a", "x")]},
    {"b": [("steal", "a", "x")]},
    {"a": [("push", "x"), ("steal", "a", "x")]},
    {"a": [("push", "x")], "b": [("steal", "c", "x")]},
    {"a": [("push", "x")], "b": [("steal", "c", "x")], "c": []},
    {"a": [("push", "x")], "b": [("steal", "b", "x")]},
]


def wrong_logs():
    """Objects that are no logs."""
    found = STRANGE + WRONG_ITEMS + [{}, [], [("a", [])], (("a", []),)]
    found += [{"a": [("push", "p"), entry], "b": []} for entry in WRONG_ENTRIES]
    found += [{name: []} for name in WRONG_NAMES] + [{"a": [], name: []} for name in WRONG_NAMES]
    found += [{"a": log} for log in (None, True, 0, "", "a", (), (("push", "x"),), {}, {"push": "x"}, ("push", "x"))]
    found += [{"a": [], "b": ()}, {"a": [[("push", "x")]]}, {"a": ["push", "x"]}, {"a": [("size", 0)] * 61}]
    found.append({name: [] for name in "abcdefg"})
    return found


# None of these is a place of the example logs.
WRONG_PLACES = STRANGE + [
    [], {}, ["a", 0], ("a",), ("a", 0, 0), ("c", 0), ("", 0), ("A", 0), ("a", -1), ("a", 5), ("b", 2), ("b", -2),
    ("a", 10 ** 59), ("a", -10 ** 59), ("a", True), ("a", False), ("a", "0"), ("a", None), ("a", [0]), ("a", (0,)),
    ("a", {"a": 0}), (["a"], 0), ({"a": 0}, 0), (("a",), 0), (0, "a"), (0, 0), (None, 0), (None, None), (True, True),
    (("a", 0), ("a", 1)), (("a", 0),), {"a": 0}, "a0", ("a0",),
]


def wrong_facts():
    """Objects that are no facts about the example logs."""
    one, other = ("a", 0), ("b", 1)
    found = [thing for thing in STRANGE] + [
        {}, ((one, other),), [[one, other]], [one], [one, other], [()], [(one,)], [(one, other, one)], [(one, one)],
        [(other, other)], [(one, other), (one, one)], [(one, other)] * 201, [((one, other),)], [[(one, other)]],
        (one, other), {"a": [(one, other)]}, [(one, other), None], [{"a": 0}],
    ]
    found += [[(one, place)] for place in WRONG_PLACES] + [[(place, other)] for place in WRONG_PLACES]
    found += [[(one, other), (place, place)] for place in WRONG_PLACES]
    return found
