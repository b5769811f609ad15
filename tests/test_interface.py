"""Each function of the interface is defined in the file under which it is listed, with the listed arguments."""

import inspect
import unittest

from hourring import circling, nets, pairing, papers, towns

FUNCTIONS = {
    towns: {
        "is_name": ["thing"], "is_whole": ["thing", "least", "most"], "need_town": ["town"],
        "need_day": ["town", "day"], "skills_of": ["day"], "is_exchange": ["town", "day", "jobs"], "moved": ["jobs"],
    },
    nets: {
        "is_circling": ["many", "arcs", "flows"], "worth": ["arcs", "flows"], "bound_by": ["arcs", "prices"],
    },
    circling: {"circulation": ["many", "arcs"]},
    papers: {"bound": ["town", "day", "prices"], "holds": ["town", "day", "jobs", "prices"]},
    pairing: {"paired": ["givers", "takers"]},
}


class Interface(unittest.TestCase):
    def test_functions_and_their_arguments(self):
        for module, table in FUNCTIONS.items():
            for name, arguments in table.items():
                with self.subTest(module=module.__name__, name=name):
                    told = getattr(module, name)
                    self.assertTrue(inspect.isfunction(told))
                    self.assertEqual(told.__module__, module.__name__)
                    self.assertEqual(list(inspect.signature(told).parameters), arguments)
