"""Runs the tests beside this file and those under ../shared/tests, and ends with their count.

    python3 tests/run_all.py [PYTHON ..]

Each given Python runs all of them; without any, the one that runs this file does.
"""

import os
import re
import subprocess
import sys

ROOT = os.path.dirname(os.path.dirname(os.path.abspath(__file__)))
PLACES = (os.path.join(ROOT, "tests"), os.path.join(os.path.dirname(ROOT), "shared", "tests"))


def folders_with_tests(place):
    """All folders at or below a place that hold a file test_*.py."""
    found = []
    for folder, inner, names in os.walk(place):
        inner.sort()
        if any(re.fullmatch(r"test_.*\.py", name) for name in names):
            found.append(folder)
    return found


def run_folder(python, folder):
    """Run the tests of one folder; a folder of its own process, as two may have files of one name."""
    search = os.environ.get("PYTHONPATH")
    environment = dict(os.environ, PYTHONPATH=ROOT + (os.pathsep + search if search else ""))
    environment["PYTHONDONTWRITEBYTECODE"] = "1"
    done = subprocess.run([python, "-m", "unittest", "discover", "-s", folder, "-t", folder],
                          cwd=ROOT, env=environment, stderr=subprocess.PIPE, text=True)
    return done.returncode, done.stderr


def counts_of(code, report):
    """The numbers of tests that ran and that failed; a run that does not tell its count has failed."""
    told = re.findall(r"^Ran (\d+) tests? in", report, re.MULTILINE)
    if len(told) != 1:
        return 1, 1
    ran = int(told[0])
    if code == 0 or (code == 5 and ran == 0):
        return ran, 0
    last = report.rstrip().splitlines()[-1]
    failed = sum(int(number) for number in re.findall(r"(?:failures|errors|unexpected successes)=(\d+)", last))
    # One test may fail more than once by its parts.
    return max(ran, 1), min(max(failed, 1), max(ran, 1))


def main(pythons):
    all_ran = 0
    all_failed = 0
    for python in pythons:
        for place in PLACES:
            for folder in folders_with_tests(place):
                code, report = run_folder(python, folder)
                ran, failed = counts_of(code, report)
                if failed:
                    print(report)
                print(python, os.path.relpath(folder, ROOT), ran, "tests", failed, "failed", flush=True)
                all_ran += ran
                all_failed += failed
    print(all_ran - all_failed, "passed,", all_failed, "failed")
    return 0 if all_ran and not all_failed else 1


if __name__ == "__main__":
    sys.exit(main(sys.argv[1:] or [sys.executable]))
