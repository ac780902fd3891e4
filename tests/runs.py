"""Runs that have to come home in time: going through all cases would not."""

import subprocess
import sys
from pathlib import Path

ROOT = Path(__file__).resolve().parent.parent


def assert_in_time(test, code, seconds=120):
    """Runs a piece of code, with the tests' own modules at hand, in a run of its own that is ended after some time."""
    whole = "import sys\nsys.path.insert(0, 'tests')\n" + code
    done = subprocess.run([sys.executable, "-c", whole], cwd=ROOT, timeout=seconds, capture_output=True, text=True)
    test.assertEqual(done.returncode, 0, done.stderr)
