"""The functions and methods of the interface, with their parameters, by the files that define them."""

INTERFACE = {
    "forests": {"is_forest": ["value"], "count_leaves": ["forest"]},
    "texts": {"format_forest": ["forest"], "parse_forest": ["text"]},
    "running": {"votes": ["forest", "given"], "answer": ["forest", "given"], "gap": ["forest", "given"]},
    "forms": {
        "votes_form": ["forest"], "answers_form": ["forest"],
        "same_votes": ["forest", "other"], "same_answers": ["forest", "other"],
        "parting_votes": ["forest", "other"], "parting_answers": ["forest", "other"],
    },
    "single": {
        "fewest_leaves": ["forest"], "least_depth": ["forest"], "small_tree": ["forest"], "flat_tree": ["forest"],
    },
    "pruning": {
        "unreached": ["forest"], "idle_trees": ["forest"],
        "matters": ["forest", "part"], "parts_that_matter": ["forest"],
    },
    "nearness": {"nearest": ["forest", "given", "free"]},
    "reasons": {
        "reasons": ["forest", "given"], "is_rising": ["forest", "part"], "broken_rise": ["forest", "part"],
    },
    "shares": {"shares": ["forest", "box"], "least_gap": ["forest"], "answers_told": ["forest"]},
    "joining": {"joined": ["forest", "other"], "as_one": ["forest"]},
}

DESK = {
    "__init__": ["self", "forest"], "set_leaf": ["self", "tree", "way", "votes"], "put": ["self", "tree"],
    "take": ["self", "tree"], "undo": ["self"], "redo": ["self"], "forest": ["self"], "__len__": ["self"],
    "__eq__": ["self", "other"],
}
