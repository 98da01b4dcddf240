"""Each name of the interface is defined in its own file, with its arguments."""

import ast
import pathlib
import unittest

PACKAGE = pathlib.Path(__file__).resolve().parent.parent / "passmarks"

FUNCTIONS = {
    "names": {"is_name": "thing"},
    "faults": {"three_fault": "table", "twice_fault": "table", "one_fault": "table", "sided_fault": "table"},
    "passes": {"row_behind": "table row word", "rows_on": "table row word"},
    "orders": {"order_of": "places word", "joined": "one other", "undone": "order"},
    "words": {"is_short": "places word", "who_pass": "places word", "told_form": "order"},
    "shortwords": {"many_short": "order", "short_at": "order number", "short_number": "order word"},
    "apart": {"short_parting": "table places", "any_parting": "table places",
              "shows_short_parting": "table thing", "shows_parting": "table thing"},
    "ladders": {"rung_done": "places word rung", "ladder": "places one other"},
    "ladderlooks": {"shows_ladder": "places one other thing *short=False",
                    "first_unkept": "table row word rungs"},
    "plainrows": {"plain": "table row", "plain_table": "table", "row_of_plain": "table row"},
    "lots": {"same_lot": "table one other", "fewest": "table one other", "shows_fewest": "table one other thing"},
    "numbers": {"lot_size": "table row", "number_of": "table row", "row_at": "table row number",
                "lots_of": "table places", "left_by": "table places word"},
    "going": {"all_rows": "table row *most=MOST", "far_rows": "table row *most=MOST",
              "shows_never": "table one other thing"},
    "carriers": {"through": "table mark row", "through_from_behind": "table mark row",
                 "crowd_through": "table crowd row", "through_again": "table mark row times"},
    "rowmaps": {"row_map": "table row *behind=False", "all_row_maps": "table *behind=False"},
    "likes": {"alike_lots": "table", "well_fault": "table", "made_one": "table"},
    "levels": {"levels": "table", "level_rows": "table row", "elders": "table row"},
    "maps": {"all_maps": "one other", "renamings": "one other", "parts": "table"},
    "maptrees": {"map_tree": "one other *named=False", "shows_map_tree": "one other thing *named=False"},
    "kin": {"named": "table names", "turned": "table", "undone_table": "table", "part_of": "table marks",
            "beside": "one other", "product": "one other names"},
    "far": {"row_again": "table row word times", "order_again": "places word times", "round_of": "table row word"},
    "texts": {"show_table": "table", "show_row": "row", "show_word": "word", "read_table": "text",
              "read_row": "table text", "read_word": "text"},
    "hidden": {"count_begun": "table holes word seen", "all_begun": "table holes word seen",
               "marks_begun": "table holes word seen", "can_stand": "table holes word seen passes place",
               "is_sure": "table holes word seen sight"},
    "treelooks": {"tree_of": "table holes word seen", "shows_tree": "table holes word seen thing",
                  "boxes_of": "table holes word seen", "shows_boxes": "table holes word seen thing"},
    "blame": {"blame_of": "table holes word seen", "shows_blame": "table holes word seen thing"},
    "yardtexts": {"show_yard": "yard", "read_yard": "text"},
    "leavers": {"leaving": "table row", "makers": "table row", "shows_makers": "table row thing"},
}
METHODS = {
    ("tables", "Table"): {"__init__": "self marks pairs", "__eq__": "self other", "marks": "self", "pairs": "self",
                          "passed": "self one other"},
    ("yard", "Yard"): {"__init__": "self", "__eq__": "self other", "do": "self deed", "run": "self deeds",
                       "undo": "self", "redo": "self", "names": "self", "table": "self name",
                       "table_of": "self name", "holes": "self name", "hidden": "self name", "gone": "self name",
                       "looks": "self name", "order": "self name", "deeds": "self", "many": "self name",
                       "beginnings": "self name", "boxes": "self name", "can": "self name place",
                       "now": "self name", "plain": "self name", "apart": "self one other"},
    ("desk", "Desk"): {"__init__": "self yard", "say": "self row", "yard": "self"},
}


def defined(name):
    """The functions and classes that stand at the file's own level."""
    tree = ast.parse((PACKAGE / (name + ".py")).read_text())
    return {node.name: node for node in tree.body if isinstance(node, (ast.FunctionDef, ast.ClassDef))}


def told(function):
    """The arguments, those that are handed in by names alone behind a star, with what they are when left out."""
    parts = function.args
    named = [f"*{part.arg}={ast.unparse(default)}" for part, default in zip(parts.kwonlyargs, parts.kw_defaults)]
    return " ".join([part.arg for part in parts.posonlyargs + parts.args] + named)


class Interface(unittest.TestCase):
    def test_functions(self):
        for file, functions in FUNCTIONS.items():
            there = defined(file)
            for name, arguments in functions.items():
                self.assertEqual(told(there[name]), arguments, name)
                self.assertEqual(there[name].args.defaults, [])
                # Each argument may be handed in by its name, and nothing else may.
                self.assertEqual(there[name].args.posonlyargs, [])
                self.assertIsNone(there[name].args.vararg)
                self.assertIsNone(there[name].args.kwarg)

    def test_methods(self):
        for (file, name), methods in METHODS.items():
            body = {node.name: node for node in defined(file)[name].body if isinstance(node, ast.FunctionDef)}
            for method, arguments in methods.items():
                self.assertEqual(told(body[method]), arguments, method)


if __name__ == "__main__":
    unittest.main()
