"""Runs the files test_*.py of one folder; fails if a test fails or if there is none."""

import sys
import unittest


def main(folder):
    suite = unittest.defaultTestLoader.discover(folder, pattern="test_*.py", top_level_dir=folder)
    result = unittest.TextTestRunner(stream=sys.stdout).run(suite)
    bad = len(result.failures) + len(result.errors) + len(result.unexpectedSuccesses)
    # A fixture of a class that fails is an error without a test run.
    passed = max(0, result.testsRun - bad - len(result.skipped))
    print(f"{passed} passed, {bad} failed, {len(result.skipped)} skipped")
    return 0 if result.wasSuccessful() and result.testsRun > 0 else 1


sys.exit(main(sys.argv[1]))
