"""The interface: names, arguments, and the files in which they are defined; [2]: equal calls, arguments left alone."""

import copy
import importlib
import inspect
import unittest

from stillopen import errors
from given import Case, as_lists

INTERFACE = {
    "words": {"is_label": "value", "is_text": "value"},
    "forms": {"check_sign": "value", "is_sign": "value", "sign_octets": "sign", "write_signs": "signs",
              "sign_at": "octets at", "read_signs": "octets", "healing": "octets"},
    "streams": {"check_prefix": "value", "check_ending": "depth value", "check_stream": "value",
                "is_ending": "depth value", "is_stream": "value", "depth": "prefix", "open_labels": "prefix",
                "depths": "prefix", "closing": "depth", "node_behind": "prefix at"},
    "documents": {"check_document": "value", "count_nodes": "document", "height": "document", "signs_of": "document",
                  "document_of": "stream", "markup": "prefix", "markup_of": "document", "read_markup": "text",
                  "from_text": "text"},
    "facts": {"check_question": "value", "row_facts": "question label document", "meaning": "question document",
              "meanings": "question asked document"},
    "paths": {"check_expression": "value", "path_holds": "expression document", "question_of": "expression",
              "path_text": "expression", "read_path": "text"},
    "machines": {"check_machine": "value", "kind_of": "names value", "other_label": "machine", "other_text": "machine",
                 "answer": "machine document", "widened": "machine labels texts", "not_of": "machine",
                 "all_of": "machine", "any_of": "machine", "chosen": "machine places", "trimmed": "machine",
                 "side_by_side": "machine other"},
    "compiled": {"compiled_all": "question asked *most=200", "compiled": "question *most=200"},
    "alike": {"least_documents": "machine", "least_apart": "machine other", "are_alike": "machine other",
              "least_beyond": "machine other", "least_with": "machine place word", "parts": "machine other document"},
    "leastmachines": {"least_machine": "machine", "is_least": "machine"},
    "lots": {"inner_maps": "machine", "results": "machine", "top_maps": "machine", "inner_reached": "machine",
             "top_reached": "machine", "inner_forest": "machine made", "top_forest": "machine made",
             "element_to": "machine state"},
    "stacks": {"check_stack": "machine value", "first_stack": "machine", "after": "machine stack sign",
               "after_all": "machine stack signs", "stack_of": "machine prefix", "answer_by": "machine stack ending"},
    "likeness": {"pair_lots": "machine one other", "alike": "machine one other", "parting": "machine one other",
                 "parting_holds": "machine one other value"},
    "leaststacks": {"least": "machine stack", "kind": "machine prefix", "least_stacks": "machine depth *most"},
    "counts": {"stack_machine": "machine *most", "counts_to": "machine depth *most", "count": "machine depth *most",
               "count_matrix": "machine *most"},
    "growth": {"check_words_machine": "value", "counted": "words depth", "most_kinds": "words depth",
               "bits_at": "words depth", "useful": "words", "loops": "words", "growth": "words", "bits": "words",
               "rests": "words", "at_rest": "words modulo rest", "grows": "words", "grows_holds": "words value",
               "ranks": "words", "ranks_hold": "words value"},
    "readers": {"check_reader": "value", "reader_word": "reader stream", "machine_of": "reader",
                "reader_apart": "machine reader", "is_right": "machine reader",
                "reader_kinds": "machine reader depth *most"},
    "ladders": {"check_ladder": "value", "ladder_word": "ladder stream", "ladder_apart": "machine ladder",
                "ladder_kinds": "machine ladder *most", "full_depth": "machine", "keeper_ladder": "machine depth *most"},
    "sure": {"answers_of": "machine stack", "sure": "machine stack", "sure_by": "machine prefix",
             "earliest": "machine prefix", "sure_table": "machine", "sure_answers": "machine depth",
             "open_count": "machine depth *most", "shortest_sure": "machine answer"},
    "pieces": {"no_piece": "machine", "check_piece": "machine value", "sign_piece": "machine sign",
               "joined": "machine one other", "piece_of": "machine signs", "act": "machine stack piece"},
    "skipped": {"is_idle": "machine stack level", "idle_level": "machine stack", "is_skipped": "machine stack label",
                "asked": "machine stack level", "asked_holds": "machine stack level value", "gaps": "machine stream",
                "bare": "machine stream", "looked_at": "machine stream"},
    "reasons": {"endings": "machine stack", "ending_to": "machine stack answer", "why": "machine stack",
                "why_holds": "machine stack value", "turning": "machine prefix"},
    "several": {"part": "machine place", "without": "machine place", "kinds_by": "machine stack",
                "counts_by": "machine depth *most", "first_less": "machine *most", "is_needless": "machine place *most",
                "sure_parts": "machine stack", "earliest_parts": "machine prefix"},
    "picture": {"machine_for": "question asked", "picture": "machine prefix", "memory": "machine depth *most"},
}
CLASSES = {
    "keeper": {"Keeper": {"__init__": "machine", "depth": "", "read": "sign", "read_all": "signs", "word": "", "twin": ""}},
    "pieces": {"Edited": {"__init__": "machine signs", "many": "", "all_signs": "", "whole": "", "part": "first behind",
                          "edit": "first behind signs", "answer": ""}},
    "world": {"World": {"__init__": "question asked", "read": "sign", "read_piece": "signs", "tells": "", "ends": "",
                        "edit": "first behind signs"}},
    "desk": {"Desk": {"__init__": "paths", "say": "line"}},
}
ERRORS = ("OpenError BadOctets BadForm BadSign BadStream BadQuestion BadMachine BadText Refused TooGreat Broken NoFact "
          "NoState NoLabel").split()

SIGNS = (("open", "a"), ("text", "t"), ("close",))
DOCUMENT = (("element", "a", (("text", "t"),)), ("text", "u"))
QUESTION = (("label", "a"), ("text", "t", 1), ("and", 0, 1), ("inside", 2))
MACHINE = (("a",), (), (2, 0, ((0, 1),), ((0, 1), (1, 1)), ((False,), (True,))), (2, (1, 0), ((0, 1),), ((0, 1), (1, 1))))
PATH = ("path", (("/", "next", ("a", (("path", (("//", "text", None),)),)), (None, ())),))
GIVEN = {"sign": SIGNS[0], "signs": SIGNS, "octets": (0, 1, 1, 2), "at": 1, "prefix": SIGNS, "stream": SIGNS, "depth": 0,
         "document": DOCUMENT, "question": QUESTION, "asked": (3, 0), "label": "a", "expression": PATH, "machine": MACHINE,
         "other": MACHINE, "labels": ("a", "b"), "texts": ("t",), "places": (0, 0), "names": ("a", "c"), "place": 0, "word": True, "made": (0, 1), "state": 1, "stack": (0, 1),
         "ending": (("close",),), "one": (0, 0), "most": 100}
VALUES = {"words": "a", "forms": SIGNS[1], "streams": SIGNS, "documents": DOCUMENT, "facts": QUESTION, "paths": PATH,
          "machines": MACHINE, "stacks": (0, 1), "likeness": (("close",),)}
WORDS = (2, 0, (((0, 0), (1, 1)), ((0, 1),)), ((0,), (0, 1)))
GIVEN.update(words=WORDS, modulo=3, rest=1)
READER = (("a",), (), 2, 0, ((1, 1), (0, 1)), ((0, 1),), (0, 1), ((False,), (True,)))
LADDER = (("a",), (), 0, ((1, ((0,),), ((0,), (1,)), ()), (2, ((0, 1),), (), (0, 0))), ((True,),))
PIECE = ((((0, 1), (0, 1)),), (1,))
GIVEN.update(reader=READER, ladder=LADDER, piece=PIECE, level=1)
VALUES.update(readers=READER, ladders=LADDER, pieces=PIECE, skipped=((), SIGNS[::2], ()),
              reasons=("sure", (True,), (0, 1), ((1,), (1,))))
VALUES["growth"] = WORDS
OTHER = {"likeness": (0, 1), "pieces": PIECE}
# What stands under one name in several modules.
OWN = {"pieces": {"one": PIECE}, "sure": {"answer": (True,)}, "reasons": {"answer": (True,)}}
TEXT_OF = {"documents": '"x"<a></a>', "paths": "/a[/b]"}


def told_of(function):
    """The arguments of a function, as INTERFACE tells them."""
    told = []
    for one in inspect.signature(function).parameters.values():
        ahead = "*" if one.kind is one.KEYWORD_ONLY else ""
        told.append(ahead + one.name + ("" if one.default is one.empty else f"={one.default}"))
    return " ".join(told)


def arguments_for(module, name):
    """By name the arguments of an ordinary call."""
    if name == "kind_of":
        return {"names": GIVEN["names"], "value": "c"}
    names = [word.lstrip("*") for word in INTERFACE[module][name].split() if "=" not in word]
    given = dict(GIVEN, value=VALUES.get(module), text=TEXT_OF.get(module), other=OTHER.get(module, MACHINE))
    given.update(OWN.get(module, {}))
    if name == "without":
        given["machine"] = MACHINE[:2] + (MACHINE[2][:4] + (((False, True), (True, True)),),) + MACHINE[3:]
    if name == "is_needless":
        given["machine"] = arguments_for(module, "without")["machine"]
    return {word: given[word] for word in names}


class Interface(Case):
    def functions(self):
        for module, listed in INTERFACE.items():
            for name in listed:
                yield module, name, getattr(importlib.import_module("stillopen." + module), name)

    def test_names_and_arguments(self):
        for module, name, function in self.functions():
            self.assertEqual(function.__module__, "stillopen." + module, name)
            self.assertEqual(told_of(function), INTERFACE[module][name], name)
        for module, listed in CLASSES.items():
            for name, methods in listed.items():
                one = getattr(importlib.import_module("stillopen." + module), name)
                self.assertEqual(one.__module__, "stillopen." + module)
                for method, told in methods.items():
                    self.assertIn(method, vars(one))
                    self.assertEqual(told_of(vars(one)[method]), ("self " + told).strip(), method)
        for name in ERRORS:
            self.assertEqual(getattr(errors, name).__module__, "stillopen.errors")

    def test_by_position_by_name_lists_and_tuples(self):
        for module, name, function in self.functions():
            given = arguments_for(module, name)
            told = function(**given)
            self.assertTuples(told)
            lists = {word: as_lists(value) for word, value in given.items()}
            kept = copy.deepcopy(lists)
            only_named = {"most": given.pop("most")} if "most" in given else {}
            places = [lists[word] for word in given]
            for again in (function(*given.values(), **only_named), function(**lists), function(*places, **only_named)):
                self.assertEqual(again, told, name)
                self.assertIs(type(again), type(told))
                self.assertTuples(again)
            self.assertEqual(lists, kept, name)

    def test_attributes(self):
        from stillopen.desk import Desk
        from stillopen.keeper import Keeper
        from stillopen.pieces import Edited
        from stillopen.world import World
        world = World(QUESTION, (3,))
        told = ((Keeper(MACHINE), ("machine", "stack")), (Edited(MACHINE, SIGNS), ("made",)), (Desk(["/a"]), ("world",)),
                (world, ("machine", "signs", "keeper", "first")))
        for one, names in told:
            for name in names:
                self.assertIn(name, vars(one))
        self.assertIsInstance(world.keeper, Keeper)
        self.assertIsInstance(Desk(["/a"]).world, World)

    def test_equal_calls_do_not_mix_bools_and_numbers(self):
        from stillopen.facts import check_question, meanings
        from stillopen.forms import read_signs
        self.assertEqual(read_signs((1, 1, 0)), ((("open", "a"),), 3))
        self.assertFails(errors.BadOctets, 0, read_signs, (True, 1, 0))
        self.assertEqual(read_signs((1, 1, 0)), ((("open", "a"),), 3))
        self.assertEqual(check_question((("text", None, 1),)), (("text", None, 1),))
        self.assertFails(errors.BadQuestion, 0, check_question, (("text", None, True),))
        self.assertEqual(meanings(QUESTION, (1,), DOCUMENT), (False,))
        self.assertFails(errors.NoFact, True, meanings, QUESTION, (True,), DOCUMENT)


if __name__ == "__main__":
    unittest.main()
