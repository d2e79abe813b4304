"""[15], [15.1], [15.2], [15.5] and neverfour.store."""

import time
import unittest

from neverfour.booktexts import print_book
from neverfour.errors import (
    BadBook, BadName, BadNames, BadText, Full, NoBook, NoState, NothingAgain, NothingBack, Refused, Stray, Taken,
    TooMany, Twice, Unlike,
)
from neverfour.store import Store, read_store

from tests.case import ENDING, ODD, Case, Source
from tests.test_booktexts import NAMES, NO_NAMES, drawn_names, plain_print
from tests.test_worlds import BITS
from tests.texts import Walk, changed, joined, told

END = ((),)
ABC = ("a", "b", "c")
# Values that are no names and may be handed in where a name is asked for.
NOT_NAMES = tuple(thing for thing in ODD + NO_NAMES if thing != "book")


def seen(store):
    """All that can be seen of a store without a change."""
    return store.names(), tuple(store.book(name) for name in store.names()), store.text()


def filled(many):
    """A store with so many books."""
    store = Store()
    for name in NAMES[:many]:
        store.put(name, ("x",), END)
    return store


class PlainStore:
    """A store by the words of [15.1] that keeps what it was ahead of each change."""

    def __init__(self):
        self.now, self.past, self.ahead = {}, [], []

    def change(self, now):
        self.past.append(self.now)
        self.now, self.ahead = now, []

    def put(self, name, names, book):
        if name not in self.now and len(self.now) == 20:
            return Full, 20
        self.change(dict(self.now, **{name: (names, book)}))
        return None

    def drop(self, name):
        if name not in self.now:
            return NoBook, name
        self.change({other: pair for other, pair in self.now.items() if other != name})
        return None

    def rename(self, old, new):
        if old not in self.now:
            return NoBook, old
        if new in self.now:
            return Taken, new
        self.change({new if other == old else other: pair for other, pair in self.now.items()})
        return None

    def back(self):
        if not self.past:
            return NothingBack, 0
        self.ahead.append(self.now)
        self.now = self.past.pop()
        return tuple(sorted(self.now))

    def again(self):
        if not self.ahead:
            return NothingAgain, 0
        self.past.append(self.now)
        self.now = self.ahead.pop()
        return tuple(sorted(self.now))

    def seen(self):
        names = tuple(sorted(self.now))
        parts = [name + " = " + print_book(*self.now[name]) for name in names]
        return names, tuple(self.now[name] for name in names), " | ".join(parts) or "-"


class Examples(Case):

    def test_example(self):
        store = Store()
        self.assertIsNone(store.put("bits", ("one", "zero"), BITS))
        store.put("boot", ("data", "shut", "spare"), ENDING)
        self.same(store.text(), "bits = 0: one 0, zero 0 | boot = 0: data 0, shut 1; 1: -")
        self.same(store.book("boot"), (("data", "shut", "spare"), ENDING))
        self.same(read_store(store.text()).book("boot"), (("data", "shut"), ENDING))
        found = (store.rename("bits", "many"), store.names(), store.back(), store.again())
        self.same(found, (None, ("boot", "many"), ("bits", "boot"), ("boot", "many")))

    def test_a_new_store(self):
        store = Store()
        self.same(seen(store), ((), (), "-"))
        self.refuses(NothingBack, 0, store.back)
        self.refuses(NothingAgain, 0, store.again)
        self.refuses(NoBook, "a", store.book, "a")

    def test_by_the_names_of_the_interface(self):
        store = Store()
        store.put(book=END, names=("a",), name="x")
        store.rename(new="y", old="x")
        self.same(store.book(name="y"), (("a",), END))
        store.drop(name="y")
        self.same(read_store(text="-").names(), ())

    def test_each_store_has_its_own_books(self):
        one, two = Store(), Store()
        one.put("a", (), END)
        self.same((one.names(), two.names(), Store().names()), (("a",), (), ()))

    def test_a_name_of_a_book_may_be_a_name_of_a_message(self):
        store = Store()
        store.put("a", ("a",), (((0, 0),),))
        store.put("talk", ("book", "talk"), BITS)
        self.same(store.text(), "a = 0: a 0 | talk = 0: book 0, talk 0")


class Changes(Case):

    def test_against_the_plain_way(self):
        source = Source(161)
        for k in range(25):
            store, plain = Store(), PlainStore()
            names = NAMES[:2] + ("z",) if k % 2 else NAMES + ("z", "zz", "zzz")
            for _ in range(150):
                name, other = names[source.below(len(names))], names[source.below(len(names))]
                kind = source.below(12)
                if kind < 6 or (kind == 7 and k % 3):
                    deed = ("put", name, ABC, source.book(2, 2, 3))
                elif kind < 8:
                    deed = ("rename", name, other)
                elif kind == 8:
                    deed = ("drop", name)
                else:
                    deed = (("back",), ("back",), ("again",))[kind - 9]
                self.same(told(getattr(store, deed[0]), *deed[1:]), getattr(plain, deed[0])(*deed[1:]))
                self.same(seen(store), plain.seen())

    def test_all_changes_back_and_again(self):
        source = Source(162)
        store, states = Store(), []
        for _ in range(3000):
            states.append(seen(store))
            name = NAMES[source.below(20)]
            if name in store.names() and source.below(2):
                store.drop(name)
            else:
                store.put(name, ABC, source.book(2, 2, 3))
        end = seen(store)
        for before in reversed(states):
            self.same(store.back(), before[0])
            self.same(seen(store), before)
        self.refuses(NothingBack, 0, store.back)
        for behind in states[1:] + [end]:
            self.same(store.again(), behind[0])
            self.same(seen(store), behind)
        self.refuses(NothingAgain, 0, store.again)

    def test_a_put_of_what_is_there_is_a_change(self):
        store = Store()
        for _ in range(3):
            store.put("a", ABC, END)
        self.same((store.back(), store.back(), store.back()), (("a",), ("a",), ()))
        self.refuses(NothingBack, 0, store.back)
        self.same((store.again(), store.again(), store.again()), (("a",),) * 3)

    def test_a_put_forgets_the_old_names(self):
        store = Store()
        store.put("a", ABC, BITS)
        store.put("a", ("x",), END)
        self.same(store.book("a"), (("x",), END))
        store.back()
        self.same(store.book("a"), (ABC, BITS))

    def test_a_new_change_forgets_what_was_undone(self):
        for change in (("put", "b", (), END), ("drop", "a"), ("rename", "a", "c")):
            store = Store()
            store.put("a", (), END)
            store.put("z", (), END)
            store.back()
            getattr(store, change[0])(*change[1:])
            self.refuses(NothingAgain, 0, store.again)
            self.same(store.back(), ("a",))
            self.same(store.back(), ())

    def test_many_changes(self):
        store = Store()
        begun = time.monotonic()
        for k in range(20000):
            store.put("ab"[k % 2], (), END)
        for _ in range(20000):
            store.back()
        self.same(store.names(), ())
        self.assertLess(time.monotonic() - begun, 20)


class Errors(Case):

    def watch(self, store, error, what, function, *args):
        """The call is refused, and nothing has changed, neither what is seen nor what can be undone or done again."""
        before = seen(store)
        self.refuses(error, what, function, *args)
        self.same(seen(store), before)

    def test_put(self):
        store = filled(2)
        store.put("gone", (), END)
        store.back()
        for thing in NOT_NAMES:
            self.watch(store, BadName, 0, store.put, thing, None, None)
        self.watch(store, BadNames, -1, store.put, "a", None, None)
        self.watch(store, BadNames, 1, store.put, "a", ("b", "a"), None)
        self.watch(store, BadBook, -1, store.put, "a", (), None)
        self.watch(store, Stray, 1, store.put, "a", (), ((), ((7, 0),)))
        self.watch(store, Unlike, 0, store.put, "a", ("x",), BITS)
        self.watch(store, Unlike, 0, store.put, NAMES[0], ("x",), (((99, 0),),))
        self.same(store.again(), ("gone",) + NAMES[:2])

    def test_twenty_books_and_one_more(self):
        store = filled(20)
        self.watch(store, Full, 20, store.put, "z", (), END)
        self.watch(store, Unlike, 0, store.put, "z", (), BITS)
        # A name that is there may get another book, or another name.
        store.put(NAMES[3], ("a", "b"), BITS)
        store.rename(NAMES[4], "z")
        self.same(len(store.names()), 20)
        store.drop("z")
        store.put("y", (), END)
        self.watch(store, Full, 20, store.put, "z", (), END)

    def test_names_that_are_not_there(self):
        store = filled(3)
        store.drop(NAMES[0])
        store.back()
        for call in (store.drop, store.book, lambda thing: store.rename(thing, "y"), lambda thing: store.rename(thing, 5)):
            for thing in NOT_NAMES:
                self.watch(store, NoBook, 0, call, thing)
            for name in ("z", "abcdefghijkl", "book"):
                self.watch(store, NoBook, name, call, name)
        self.same(store.again(), NAMES[1:3])

    def test_rename(self):
        store = filled(3)
        store.drop(NAMES[0])
        store.back()
        for thing in NOT_NAMES:
            self.watch(store, BadName, 0, store.rename, NAMES[0], thing)
        self.watch(store, Taken, NAMES[1], store.rename, NAMES[0], NAMES[1])
        self.watch(store, Taken, NAMES[0], store.rename, NAMES[0], NAMES[0])
        self.watch(store, NoBook, "y", store.rename, "y", NAMES[0])
        self.same(store.again(), NAMES[1:3])
        store.rename(NAMES[1], "y")
        self.same(store.names(), (NAMES[2], "y"))
        self.watch(store, NoBook, NAMES[1], store.rename, NAMES[1], "x")

    def test_nothing_back_and_nothing_again(self):
        store = Store()
        store.put("a", (), END)
        self.watch(store, NothingAgain, 0, store.again)
        store.back()
        self.watch(store, NothingBack, 0, store.back)
        self.same(store.again(), ("a",))


class Texts(Case):

    def test_text(self):
        store = Store()
        store.put("z", NAMES, (((19, 0),),))
        store.put("a", (), END)
        store.put("a1", ABC, ENDING)
        self.same(store.text(), "a = 0: - | a1 = 0: a 0, b 1; 1: - | z = 0: n9 0")
        back = read_store(store.text())
        # The names that stand in no message are lost, and the messages are numbered anew.
        self.same(back.book("z"), (("n9",), (((0, 0),),)))
        self.same(back.book("a1"), (("a", "b"), ENDING))
        self.same(back.names(), ("a", "a1", "z"))

    def test_read_back(self):
        source = Source(163)
        for k in range(60):
            store = Store()
            books = {}
            for name in drawn_names(source, source.below(21)):
                names, book = drawn_names(source, 20), source.book(4, 4, 20)
                store.put(name, names, book)
                used = sorted({m for state in book for m, _ in state})
                number = {m: j for j, m in enumerate(used)}
                books[name] = (tuple(names[m] for m in used), tuple(
                    tuple((number[m], to) for m, to in state) for state in book))
            text = store.text()
            if len(text) <= 20000:
                back = read_store(text)
                self.same(seen(back), (tuple(sorted(books)), tuple(books[name] for name in sorted(books)), text))
                self.refuses(NothingBack, 0, back.back)
                self.refuses(NothingAgain, 0, back.again)

    def test_the_greatest_store(self):
        store = Store()
        names = tuple(f"abcdefghij{chr(97 + k)}z" for k in range(20))
        book = tuple(tuple(sorted(((5 * s + m) % 20, (s + 1) % 8) for m in range(5))) for s in range(8))
        for k in range(20):
            store.put(f"abcdefghij{chr(97 + k)}{k % 10}", names, book)
        text = store.text()
        self.assertEqual(text.count("|"), 19)
        self.assertLess(13000, len(text))
        self.same(seen(read_store(text)), seen(store))

    def test_what_was_read_can_be_changed_and_undone(self):
        store = read_store("a = 0: x 0 | b = 0: -")
        self.refuses(NothingBack, 0, store.back)
        store.drop("a")
        self.same(store.back(), ("a", "b"))
        self.refuses(NothingBack, 0, store.back)
        self.same(store.text(), "a = 0: x 0 | b = 0: -")

    def test_wrong_words(self):
        for text, place in (
            ("", 0), ("  ", 2), ("- -", 2), ("-|", 1), ("a", 1), ("a =", 3), ("a = -", 4), ("a = 1: -", 4), ("a 0: -", 2),
            ("a = 0: - b = 0: -", 9), ("a = 0: - |", 10), ("| a = 0: -", 0), ("a = 0: - | -", 11), ("a = 0: - | 1", 11),
            ("say = 0: -", 0), ("a = 0: x 0, | b", 12), ("a = 0: x | b", 9), ("A = 0: -", 0), ("a = 0: - | b = 1: -", 15),
            ("a = 0: - = 0: -", 9), ("a = 0: -; | b", 10),
        ):
            self.refuses(BadText, place, read_store, text)

    def test_places_are_those_of_the_whole_text(self):
        self.refuses(Twice, 11, read_store, "a = 0: - | a + 0: -")
        self.refuses(Twice, 23, read_store, "a = 0: - | b = 0: x 0, x 0")
        self.refuses(NoState, 20, read_store, "a = 0: - | b = 0: x 7")
        self.refuses(NoState, 9, read_store, "a = 0: x 7 | + +")
        # A word that can stand neither in the book nor behind it comes first.
        self.refuses(BadText, 11, read_store, "a = 0: x 7 + | b = 0: -")
        self.refuses(BadText, 11, read_store, "a = 0: x 7 b = 0: -")
        self.refuses(Stray, 1, read_store, "a = 0: -; 1: - | +")
        self.refuses(Stray, 2, read_store, "a = 0: - | b = 0: x 1; 1: -; 2: - | a = 0: -")
        text = "b = 0: a 0,b 0,c 0,d 0,e 0"
        self.refuses(TooMany, len(text) + 1, read_store, text + ",f 0")
        eight = "a = " + ";".join(f"{s}:x {s + 1}" for s in range(8)) + ";"
        self.refuses(TooMany, len(eight), read_store, eight + "8:- | +")
        self.refuses(BadText, len(eight), read_store, eight + "9:- | +")

    def test_names_are_counted_book_by_book(self):
        parts = []
        for k in range(20):
            parts.append(f"m{k:02} = 0: " + ", ".join(f"{name} 0" for name in NAMES[k % 16:k % 16 + 5]))
        store = read_store(" | ".join(parts))
        self.same(len(store.names()), 20)
        # Each book may have twenty names of its own.
        rings = "; ".join(
            f"{s}: " + ", ".join(f"{name} {(s + 1) % 4}" for name in NAMES[5 * s:5 * s + 5]) for s in range(4))
        other = rings.replace("n", "o")
        self.same(read_store(f"a = {rings} | b = {other}").book("b")[0], tuple(name.replace("n", "o") for name in NAMES))
        more = "; 4: zz 0".join([rings.replace(" 0", " 4", 0), ""])
        self.refuses(TooMany, len("b = ") + more.index("zz"), read_store, "b = " + more)

    def test_twenty_books_and_one_more(self):
        text = " | ".join(f"{name} = 0: -" for name in NAMES)
        self.same(read_store(text).names(), NAMES)
        for name in ("z", NAMES[0], NAMES[19]):
            self.refuses(TooMany, len(text) + 3, read_store, text + " | " + name + " +")
        self.refuses(BadText, len(text) + 3, read_store, text + " | 0")

    def test_signs(self):
        self.refuses(BadText, -1, read_store, None)
        self.refuses(BadText, 8, read_store, "a = 0: -\n")
        self.same(read_store("-" + " " * 19999).names(), ())
        self.refuses(BadText, 20000, read_store, "-" + " " * 20000)
        for thing in ODD:
            if not isinstance(thing, str):
                self.refuses(BadText, -1, read_store, thing)

    def test_each_wrong_word(self):
        source = Source(164)
        kinds = {}
        for k in range(50):
            words = []
            for name in ("a", "b", "x1")[:1 + source.below(3)]:
                words += ["|", name, "="] + plain_print(("a", "b", "data"), source.book(3, 2, 3))
            for more in changed(words[1:], source):
                text = joined(more, source)
                found = told(lambda: seen(read_store(text)))
                self.same(found, told(plain_read_store, text))
                kinds[found[0] if isinstance(found[0], type) else None] = True
        self.assertEqual(set(kinds), {None, BadText, Twice, NoState, Stray})

    def test_words_of_any_kind(self):
        source = Source(165)
        pool = ["0", "1", "a", "b", "=", "|", ":", ";", ",", "-", "a", "0", ":", "="]
        begin = ["a", "=", "0", ":", "b", "0", "|", "c", "=", "0", ":", "-"]
        for k in range(6000):
            words = begin[:source.below(13)] + [pool[source.below(14)] for _ in range(source.below(9))]
            text = joined(words, source)
            self.same(told(lambda: seen(read_store(text))), told(plain_read_store, text))


def plain_read_store(text):
    """What can be seen of the store that is read, by the plain reader."""
    walk = Walk("store", text)
    pairs = dict(zip(walk.books, walk.told))
    plain = PlainStore()
    plain.now = pairs
    return plain.seen()


class Whole(Case):

    def test_nothing_but_refusals_is_raised(self):
        for thing in ODD:
            store = Store()
            for call in (store.drop, store.book, lambda one: store.rename(one, one), lambda one: store.put(one, one, one)):
                with self.assertRaises(Refused):
                    call(thing)


if __name__ == "__main__":
    unittest.main()
