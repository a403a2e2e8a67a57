"""Things of every sort, for arguments that are refused whatever they are."""


def odd_things():
    """No one of these is a whole number, or a list, dict or tuple that holds a whole number."""
    ring = []
    ring.append(ring)
    return [
        None, True, False, "", "0", "alone", b"", b"\x00", 0.0, 1.0, float("nan"), 1j,
        (), [], {}, set(), frozenset(), [[]], [[], []], ([], []), (None, None), [None], {"a": []},
        ring, object(), int, len, lambda: 0, range(2), iter([0]), ValueError("0"),
    ]
