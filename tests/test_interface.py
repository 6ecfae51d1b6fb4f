"""The interface: each name of it stands in its module and takes what is told there."""

import importlib
import inspect
import unittest

FUNCTIONS = {
    "tents": "after(place) before(place)",
    "exchange": "square(tent,seam) moved(tent,seam,way,place) exchanged(tent,seam,way) contrary(way) "
                "driven(tent,moves) undoing(moves)",
    "words": "plain(tent,word) backward(tent,word) turned(word,by) least(tent,word) alike(tent,one,other) "
             "times(tent,word) letters(tent,word) walked(tent,place,turns)",
    "pulling": "pulled(tent,seam,way,word) pulled_along(tent,moves,word)",
    "counts": "tally(tent,word) flow(tent,word) look_counts(tent,counts) led(tent,counts,seam) traced(tent,counts)",
    "easing": "eased(tent,counts) led_along(tent,moves,counts)",
    "rounds": "points(tent) about(tent,corner) rims(tent) pieces(tent) shape(tent)",
    "stretch": "fraction(top,bottom) stretched(tent,worths,seam) worth(tent,worths,word) even_worths(tent)",
    "matching": "matched(one,other) carried(one,other,word)",
    "book": "answered(hall,order) written(hall) read(text)",
}
METHODS = {
    "tents.Tent": "__init__(self,rows) rows(self) size(self) seams(self) seam_at(self,place) places(self,seam) "
                  "mate(self,place) sort_of(self,seam)",
    "hall.Hall": "__init__(self,rows) lay(self,name,word) pour(self,name,counts) lift(self,name) "
                 "weigh(self,seam,top,bottom) turn(self,seam,way) back(self) again(self) deeds(self) first_rows(self) "
                 "tent_rows(self) names(self) families(self) thread(self,name) pool(self,name) "
                 "pool_threads(self,name) numbers(self) fractions(self) worth_of(self,name) same(self,one,other)",
}


def told(function):
    """A function's name with its parameters."""
    return function.__name__ + "(" + ",".join(inspect.signature(function).parameters) + ")"


class InterfaceTest(unittest.TestCase):

    def test_functions(self):
        for module, wanted in FUNCTIONS.items():
            found = importlib.import_module("tentloops." + module)
            for each in wanted.split():
                self.assertEqual(told(getattr(found, each.partition("(")[0])), each)

    def test_methods(self):
        for place, wanted in METHODS.items():
            module, name = place.split(".")
            found = getattr(importlib.import_module("tentloops." + module), name)
            for each in wanted.split():
                self.assertEqual(told(getattr(found, each.partition("(")[0])), each)

    def test_each_stands_in_its_own_module(self):
        for module, wanted in FUNCTIONS.items():
            found = importlib.import_module("tentloops." + module)
            for each in wanted.split():
                self.assertEqual(getattr(found, each.partition("(")[0]).__module__, "tentloops." + module)


if __name__ == "__main__":
    unittest.main()
