"""All fillings up to a total, and all fillings of a finite book (points 13, 49, 52 and 53)."""

from twiceeach.errors import Endless
from twiceeach.fillings import filling_key, mirror_texts_of, text_count, texts_of
from twiceeach.forms import Form, first_rows, next_rows
from twiceeach.pairs import END, lots_of
from twiceeach.symbols import standings
from twiceeach.useful import useful_starts, useful_steps, web_verdict
from twiceeach.walks import check_most, walks_with_forms
from twiceeach.web import Web


def forms_up_to(book, most, lots):
    """Return the forms of the walks with the lots whose weight is at most `most`, a list."""
    return [form for lot in lots for _, form in walks_with_forms(book, lot, most)]


def free_texts(letters, kind, length):
    """Return the texts of the length for a piece that is freed with the kind, a list."""
    return texts_of(letters, length) if kind == "any" else mirror_texts_of(letters, length)


def free_text_count(letters, kind, length):
    """Return the number of the texts of the length for a piece that is freed with the kind."""
    return text_count(letters, length if kind == "any" else (length + 1) // 2)


def growth(form, name, size, most):
    """Return tuples (length, total) for the lengths of a free text, which begin with 1.

    A free text of one letter makes the total `size`; no total is above `most`.
    """
    rows = list(form.rows.values())
    times = standings(name, *rows)
    return [(1 + more, size + more * times) for more in range(1 + (most - size) // times)]


def free_choices(letters, form, most):
    """Return the free texts with which the form gives a total of at most `most`, a list of tuples (total, dict)."""
    choices = [(form.weight, {})]
    for name, kind in form.free.items():
        wider = []
        for size, texts in list(choices):
            for length, grown in growth(form, name, size, most):
                wider.extend([(grown, {**texts, name: text}) for text in free_texts(letters, kind, length)])
        choices = wider
    return choices


def form_totals(letters, form, most):
    """Return the numbers of the fillings that the form gives, for the totals 0, 1, .., `most`."""
    counts = [0] * (most + 1)
    counts[form.weight] = 1
    for name, kind in form.free.items():
        wider = [0] * (most + 1)
        for size, many in enumerate(list(counts)):
            if many > 0:
                for length, grown in growth(form, name, size, most):
                    wider[grown] += many * free_text_count(letters, kind, length)
        counts = wider
    return counts


def fillings_with_lots(book, most, lots):
    """Return the fillings with totals up to `most` whose empty pieces are one of the lots, a list in order."""
    found = []
    for form in forms_up_to(book, most, lots):
        found.extend([form.fill(texts) for _, texts in free_choices(book.letters, form, most)])
    return sorted(found, key=filling_key)


def fillings_of_forms(letters, forms, size):
    """Return the fillings that the forms give and that have the total, a list in order."""
    found = []
    for form in forms:
        if form.weight <= size:
            found.extend([form.fill(texts) for grown, texts in free_choices(letters, form, size) if grown == size])
    return sorted(found, key=filling_key)


def fillings(book, *, most):
    """Return the fillings with totals up to `most` that fill the book, a list in order."""
    check_most(most)
    return fillings_with_lots(book, most, lots_of(book.pieces))


def least_filling(book, *, most):
    """Return the first filling with a total of at most `most` that fills the book, or None."""
    check_most(most)
    for bound in range(most + 1):
        found = forms_up_to(book, bound, lots_of(book.pieces))
        if found:
            # Forms of the least weight have no free pieces: with these being empty, a filling would be smaller.
            return min([form.fill({}) for form in found], key=filling_key)
    return None


def totals(book, *, most):
    """Return the numbers of the fillings with the totals 0, 1, .., `most` that fill the book, a list."""
    check_most(most)
    counts = [0] * (most + 1)
    for form in forms_up_to(book, most, lots_of(book.pieces)):
        for size, many in enumerate(form_totals(book.letters, form, most)):
            counts[size] += many
    return counts


def all_fillings(book):
    """Return all fillings that fill the book, a list in order."""
    web = Web(book)
    if web_verdict(web) == "endless":
        raise Endless()
    onward = {}
    for pair, move, _, behind in useful_steps(web):
        onward.setdefault(pair, []).append((move, behind))
    found = []
    waiting = [(pair, first_rows(book, lot)) for lot, _, pair in useful_starts(web)]
    while waiting:
        pair, rows = waiting.pop()
        if pair == END:
            found.append(Form(rows, {}).fill({}))
        for move, behind in onward.get(pair, []):
            waiting.append((behind, next_rows(rows, move)))
    return sorted(found, key=filling_key)
