import ast
import pathlib
import re
import unittest

from lastcoins import shares

README = pathlib.Path(__file__).resolve().parent.parent / "README.md"


class ReadmeTest(unittest.TestCase):
    def test_examples_answer_what_is_told(self):
        examples = re.findall(r"^(\w+)(\(.*\)) +# (\[[^]]*\])", README.read_text("utf-8"), re.MULTILINE)
        self.assertGreater(len(examples), 0)
        for name, given, answer in examples:
            got = getattr(shares, name)(*ast.literal_eval(given[:-1] + ",)"))
            self.assertEqual(got, ast.literal_eval(answer), (name, given))
