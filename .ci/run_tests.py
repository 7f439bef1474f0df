"""Runs the tests in some folders, each file test_*.py in a process of its own, and counts them.

The last line tells how many tests passed and failed. The exit status is 0 only if some passed and none failed.
"""

import importlib.util
import os
import subprocess
import sys
import unittest

ROOT = os.getcwd()


class CountingResult(unittest.TextTestResult):
    """Counts the tests that passed, too."""

    passed = 0

    def addSuccess(self, test):
        super().addSuccess(test)
        self.passed += 1

    def addExpectedFailure(self, test, err):
        super().addExpectedFailure(test, err)
        self.passed += 1


def test_files(folders):
    """The paths of all test files in the folders and in the folders below them, in order."""
    found = []
    for folder in folders:
        for place, _, names in os.walk(folder):
            found.extend(os.path.join(place, name) for name in names
                         if name.startswith("test_") and name.endswith(".py"))
    return sorted(found)


def run_file(path):
    """Runs one file in this process; the last line of the output tells how many tests passed and failed."""
    sys.path[:0] = [ROOT, os.path.dirname(os.path.abspath(path))]
    name = os.path.basename(path)[:-len(".py")]
    spec = importlib.util.spec_from_file_location(name, path)
    module = importlib.util.module_from_spec(spec)
    sys.modules[name] = module
    spec.loader.exec_module(module)
    suite = unittest.defaultTestLoader.loadTestsFromModule(module)
    result = unittest.TextTestRunner(stream=sys.stderr, resultclass=CountingResult).run(suite)
    # A test with several failing parts is one failed test; what fails ahead of all tests of a class counts, too.
    wrong = {getattr(test, "test_case", test).id() for test, _ in result.failures + result.errors}
    wrong.update(test.id() for test in result.unexpectedSuccesses)
    print(result.passed, len(wrong))


def counts_of(path):
    """How many tests of a file passed and failed; a file that cannot be run is one failed test."""
    told = subprocess.run([sys.executable, "-B", __file__, "--file", path], stdout=subprocess.PIPE, text=True)
    lines = told.stdout.splitlines()
    if told.returncode != 0 or not lines:
        return 0, 1
    passed, failed = lines[-1].split()
    return int(passed), int(failed)


def run_all(folders):
    """Runs all files; the exit status."""
    passed = failed = 0
    for path in test_files(folders):
        print(path, file=sys.stderr, flush=True)
        more_passed, more_failed = counts_of(path)
        passed += more_passed
        failed += more_failed
    print(f"{passed} passed, {failed} failed", flush=True)
    return 0 if passed > 0 and failed == 0 else 1


if __name__ == "__main__":
    if sys.argv[1] == "--file":
        run_file(sys.argv[2])
    else:
        sys.exit(run_all(sys.argv[1:]))
