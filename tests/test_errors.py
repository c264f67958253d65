import unittest

from metorshut import errors

UNDER = {
    "MakerError": (ValueError, None),
    "BadText": ("MakerError", ("at",)),
    "CheckError": ("MakerError", None),
    "LimitError": ("MakerError", None),
    "RunError": ("MakerError", None),
    "Unlike": ("MakerError", ()),
    "NoEdition": ("MakerError", ()),
    "Clash": ("MakerError", ("name",)),
    "NotFit": ("MakerError", ("name",)),
    "NotTotal": ("MakerError", ("name", "words")),
    "NotPure": ("MakerError", ("name",)),
    "HasAsks": ("MakerError", ()),
    "TooLarge": ("CheckError", ("name",)),
    "Twice": ("CheckError", ("name",)),
    "Unknown": ("CheckError", ("name",)),
    "BadUse": ("CheckError", ("name",)),
    "BadNumber": ("CheckError", ("value",)),
    "BadWidth": ("CheckError", ("name",)),
    "Unmet": ("CheckError", ("name", "words")),
    "TooWide": ("LimitError", ("name",)),
    "TooMany": ("LimitError", ("part",)),
    "CutShort": ("LimitError", ("bound",)),
    "BadBounds": ("RunError", ()),
    "BadInput": ("RunError", ("part",)),
    "NotAsked": ("RunError", ()),
}


class Errors(unittest.TestCase):
    def test_each_stands_under_one(self):
        for name, (base, _) in UNDER.items():
            wanted = base if isinstance(base, type) else getattr(errors, base)
            self.assertEqual(getattr(errors, name).__bases__, (wanted,), name)

    def test_there_are_no_others(self):
        made = {name for name, value in vars(errors).items() if isinstance(value, type)}
        self.assertEqual(made, set(UNDER))

    def test_each_keeps_its_arguments(self):
        for name, (_, parts) in UNDER.items():
            if parts is None:
                continue
            values = [("part", at) for at in range(len(parts))]
            error = getattr(errors, name)(*values)
            self.assertEqual(vars(error), dict(zip(parts, values)), name)
            with self.assertRaises(TypeError if parts else errors.MakerError):
                raise getattr(errors, name)()

    def test_arguments_by_name(self):
        self.assertEqual(errors.Unmet(words=(1, 2), name="ask").words, (1, 2))
        self.assertEqual(errors.BadText(at=3).at, 3)


if __name__ == "__main__":
    unittest.main()
