"""The examples of the document, section by section: each gives what stands there."""

import doctest
import os
import unittest

HERE = os.path.dirname(os.path.abspath(__file__))


class Examples(unittest.TestCase):
    def check_section(self, number, many):
        result = doctest.testfile(os.path.join(HERE, f"examples_{number}.txt"), module_relative=False)
        self.assertEqual((result.failed, result.attempted), (0, many))

    def test_signs(self):
        self.check_section(3, 3)

    def test_streams_and_documents(self):
        self.check_section(4, 6)

    def test_questions(self):
        self.check_section(5, 8)

    def test_machines(self):
        self.check_section(6, 7)

    def test_compiled(self):
        self.check_section(7, 8)

    def test_least_machines(self):
        self.check_section(8, 6)

    def test_forests(self):
        self.check_section(9, 4)

    def test_endings(self):
        self.check_section(10, 6)

    def test_keeper(self):
        self.check_section(11, 7)

    def test_counts(self):
        self.check_section(12, 4)

    def test_growth(self):
        self.check_section(13, 6)

    def test_readers_and_ladders(self):
        self.check_section(14, 10)

    def test_sure(self):
        self.check_section(15, 6)

    def test_pieces(self):
        self.check_section(16, 6)

    def test_skipped(self):
        self.check_section(17, 7)

    def test_reasons(self):
        self.check_section(18, 5)

    def test_several(self):
        self.check_section(19, 10)

    def test_the_whole(self):
        self.check_section(20, 10)

    def test_desk(self):
        self.check_section(21, 5)

    def test_overview(self):
        self.check_section(1, 2)

    def test_readme(self):
        result = doctest.testfile(os.path.join(os.path.dirname(HERE), "README.md"), module_relative=False)
        self.assertEqual(result.failed, 0)


if __name__ == "__main__":
    unittest.main()
