"""Runs the files test_*.py of one folder: 0 if tests ran and none failed, else 1."""

import os
import sys
import unittest


def load_folder(folder):
    sys.path.insert(0, folder)
    files = sorted(os.listdir(folder))
    names = [file[:-3] for file in files if file.startswith("test_") and file.endswith(".py")]
    return unittest.defaultTestLoader.loadTestsFromNames(names)


def main():
    result = unittest.TextTestRunner(stream=sys.stdout).run(load_folder(sys.argv[1]))
    wrong = len(result.failures) + len(result.errors) + len(result.unexpectedSuccesses)
    ran = result.testsRun - len(result.skipped)
    print(f"{max(ran - wrong, 0)} passed, {wrong} failed, {len(result.skipped)} skipped")
    if ran == 0:
        print("no test ran")
    return 0 if ran > 0 and wrong == 0 else 1


sys.exit(main())
