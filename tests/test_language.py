"""The package keeps to the part of Python that it is written in, and the look at it sees what is outside."""

import os
import re
import tempfile
import unittest

import language

ROOT = os.path.dirname(os.path.dirname(os.path.abspath(__file__)))

OUTSIDE = {
    "L2": 'import os',
    "L3": 'if True:\n    pass',
    "L4": 'def f(*xs):\n    return xs',
    "L5": 'class A:\n    x = 1',
    "L6": 'def f(xs):\n    del xs[0]',
    "L7": 'def f(x):\n    return x / 2',
    "L8": 'def f(x):\n    return iter(x)',
    "L10": 'X = "' + "a" * 120 + '"',
    "L12": 'def _f(x):\n    return x',
    "L14": 'X = "\u00e9"',
    "L15": 'def f(map):\n    return map',
    "L16": 'from weirmark.thing import f\n\n\ndef f(x):\n    return x',
    "L17": 'X = "a type"',
    "L18": 'class A:\n    def f(self):\n        return 1\n\n    def g(self):\n        self.f = 1',
    "L19": 'def f(x):\n    try:\n        return x[0]\n    except TypeError:\n        return 0',
    "L20": 'def f(x):\n    return x is 1000',
    "L21": 'def f(x: int):\n    return x',
    "L22": 'def f(x):\n    return sorted(x, key=len, reverse=x)',
    "L23": 'def f(x):\n    y = x.items()\n    return y',
    "L24": 'def f(x):\n    y = set(x)\n    return y',
    "L25": 'def f(x):\n    return x.sort()',
    "L26": 'class A:\n    def f(self):\n        self.items = 1',
    "L27": 'def f(x):\n    return 2 ** x',
    "L28": 'class A:\n    def __init__(self):\n        return None',
}


class LanguageTest(unittest.TestCase):
    def test_the_package_keeps_to_the_language(self):
        self.assertEqual(language.faults(os.path.join(ROOT, "weirmark")), [])

    def test_what_is_outside_is_seen(self):
        for rule, text in OUTSIDE.items():
            with self.subTest(rule=rule), tempfile.TemporaryDirectory() as folder:
                package = os.path.join(folder, "weirmark")
                os.mkdir(package)
                for name, content in (("__init__.py", '"""A."""\n'), ("thing.py", f'"""A."""\n\n{text}\n')):
                    with open(os.path.join(package, name), "w", encoding="utf-8") as file:
                        file.write(content)
                found = language.faults(package)
                self.assertIn(rule, re.findall(r"L[0-9]+", " ".join(found)))


if __name__ == "__main__":
    unittest.main()
