"""Each function and class of the interface stands in the file under which it is listed, with the listed arguments."""

import inspect
import unittest

from hourring import circling, desk, exchanges, ledger, nets, pairing, papers, towns

FUNCTIONS = {
    towns: {
        "is_name": ["thing"], "is_whole": ["thing", "least", "most"], "need_town": ["town"],
        "need_day": ["town", "day"], "skills_of": ["day"], "is_exchange": ["town", "day", "jobs"], "moved": ["jobs"],
    },
    nets: {
        "is_circling": ["many", "arcs", "flows"], "worth": ["arcs", "flows"], "bound_by": ["arcs", "prices"],
    },
    circling: {"circulation": ["many", "arcs"]},
    papers: {"bound": ["town", "day", "prices"], "holds": ["town", "day", "jobs", "prices"]},
    pairing: {"paired": ["givers", "takers"]},
    exchanges: {"best": ["town", "day"]},
    ledger: {"played": ["deeds"]},
}

CLASSES = {
    ledger: {"Ledger": {"do": ["deed"], "undo": [], "book": [], "town": [], "day": []}},
    desk: {"Desk": {"say": ["line"]}},
}


class Interface(unittest.TestCase):
    def test_functions_and_their_arguments(self):
        for module, table in FUNCTIONS.items():
            for name, arguments in table.items():
                with self.subTest(module=module.__name__, name=name):
                    told = getattr(module, name)
                    self.assertTrue(inspect.isfunction(told))
                    self.assertEqual(told.__module__, module.__name__)
                    self.assertEqual(list(inspect.signature(told).parameters), arguments)

    def test_classes_and_their_methods(self):
        for module, table in CLASSES.items():
            for name, methods in table.items():
                kind = getattr(module, name)
                self.assertTrue(inspect.isclass(kind))
                self.assertEqual(kind.__module__, module.__name__)
                self.assertEqual(list(inspect.signature(kind).parameters), [])
                for method, arguments in methods.items():
                    with self.subTest(name=name, method=method):
                        self.assertTrue(inspect.isfunction(vars(kind)[method]))
                        self.assertEqual(list(inspect.signature(vars(kind)[method]).parameters), ["self"] + arguments)
