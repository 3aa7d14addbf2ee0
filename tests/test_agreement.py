"""Several ways of the document to the same answer agree on small books (points 11, 36, 48, 51, 53 and 59)."""

import itertools
import unittest

from tests.samples import all_samples, search, texts_up_to, thrown_books
from twiceeach.fillings import filling_key, fills
from twiceeach.forms import form_of
from twiceeach.gluing import Gluing
from twiceeach.listing import all_fillings, fillings, totals
from twiceeach.names import canonical
from twiceeach.papers import closed_paper, endless_paper, judge_closed, judge_endless, judge_walk
from twiceeach.useful import find_ring, useful_starts, useful_steps, verdict, walk_count
from twiceeach.walks import walk_of, walks
from twiceeach.web import Web


def given_by(sample, most):
    """The fillings up to a total that the forms of the walks and all free texts give (point 48)."""
    found = []
    for walk in walks(sample, most=most):
        form = form_of(sample, walk)
        for texts in itertools.product(texts_up_to(sample.letters, most)[1:], repeat=len(form.free)):
            free = dict(zip(form.free, texts))
            if all(form.free[name] == "any" or free[name] == free[name][::-1] for name in free):
                filling = form.fill(free)
                if sum(map(len, filling.values())) <= most:
                    found.append(filling)
    return found


class Agreement(unittest.TestCase):

    def test_plain_search_and_the_listed_fillings(self):
        for sample in thrown_books(300, seed=7):
            found = fillings(sample, most=5)
            self.assertEqual(found, search(sample, 5))
            self.assertTrue(all(fills(sample, one) for one in found))

    def test_walks_forms_and_free_texts_give_each_filling_once(self):
        for sample in all_samples():
            found = given_by(sample, 4)
            self.assertEqual(sorted(found, key=filling_key), fillings(sample, most=4))

    def test_told_lengths_and_the_numbers_of_the_totals(self):
        for sample in all_samples():
            most = 5
            counts = [0] * (most + 1)
            for chosen in itertools.product(range(most + 1), repeat=len(sample.pieces)):
                if sum(chosen) <= most:
                    counts[sum(chosen)] += Gluing(sample, dict(zip(sample.pieces, chosen))).many
            self.assertEqual(totals(sample, most=most), counts)

    def test_the_verdict_the_web_and_the_papers(self):
        for sample in thrown_books(300, seed=3):
            web = Web(sample)
            word = verdict(sample)
            freed = any(piece for _, piece, _ in useful_starts(web)) or any(piece for _, _, piece, _ in useful_steps(web))
            self.assertIs(word == "none", not web.solvable)
            self.assertIs(word == "endless", bool(freed) or find_ring(web) is not None)
            closed, endless = closed_paper(sample), endless_paper(sample)
            self.assertIs(closed is not None, word == "none")
            self.assertIs(endless is not None, word == "endless")
            if closed is not None:
                self.assertIs(judge_closed(sample, closed), True)
            if endless is not None:
                self.assertIs(judge_endless(sample, endless), True)

    def test_an_endless_paper_shows_fillings_without_end(self):
        for sample in all_samples():
            paper = endless_paper(sample)
            if paper is not None and paper[2]:
                lot, before, ring, behind = paper
                for rounds in range(4):
                    self.assertIs(judge_walk(sample, (lot, before + ring * rounds + behind)), True)

    def test_finite_books_have_as_many_fillings_as_walks(self):
        for sample in thrown_books(200, seed=11):
            if verdict(sample) == "finite":
                found = all_fillings(sample)
                self.assertEqual(len(found), walk_count(sample))
                self.assertEqual(len({walk_of(sample, one)[0] for one in found}), len(found))
                self.assertTrue(all(fills(sample, one) and walk_of(sample, one)[1] == {} for one in found))

    def test_alike_books_have_equally_many_fillings(self):
        for sample in all_samples():
            made, _ = canonical(sample)
            self.assertEqual(totals(sample, most=5), totals(made, most=5))
            self.assertEqual(verdict(sample), verdict(made))


if __name__ == "__main__":
    unittest.main()
