"""[0], [0.3]: what holds over the whole program, from the text of a book to the houses of a tree."""

import unittest

from neverfour.booktexts import print_book, read_book
from neverfour.breakers import again, fall, pinch
from neverfour.costs import dearest, pace, pulses_of
from neverfour.joining import less
from neverfour.judge import greatest, made_paper, right, why
from neverfour.kernel import hearing, paper_right
from neverfour.layings import lot_of, made_laying, wider
from neverfour.layingtexts import print_laying, read_laying
from neverfour.least import least_wires, verdict
from neverfour.likes import alike, least_book, within
from neverfour.makers import make
from neverfour.readers import Reader
from neverfour.rests import RestReader
from neverfour.runs import whole_run
from neverfour.scripts import made_script, run_script
from neverfour.scripttexts import print_script, read_script
from neverfour.session import Session
from neverfour.store import Store, read_store
from neverfour.sure import sure
from neverfour.talks import book_of, print_talk, read_talk
from neverfour.trees import Tree
from neverfour.worlds import World

from tests.case import Case, Source, carrying
from tests.test_booktexts import drawn_names
from tests.test_freewires import downward
from tests.test_readers import drawn_row
from tests.test_talks import drawn_talk
from tests.test_worlds import deeds_of
from tests.texts import told


def dense(book):
    """The book with its messages numbered from 0 on in their order."""
    used = sorted({m for state in book for m, _ in state})
    return tuple(tuple((used.index(m), to) for m, to in state) for state in book)


class Life(Case):

    def cases(self, seed, many):
        """Books with names for their messages, a window and a laying that make returns."""
        source = Source(seed)
        while many:
            free = source.below(3) == 0
            book = dense(downward(source) if free else source.book(4, 3, 6))
            window = None if free else 1 + source.below(4)
            names = drawn_names(source, 1 + max([m for state in book for m, _ in state], default=-1))
            if least_wires(book, window) is not None:
                many -= 1
                yield source, names, book, window, make(book, window)

    def test_texts(self):
        for source, names, book, window, laying in self.cases(181, 60):
            text = print_book(names, book)
            self.same(read_book(text), (names, book))
            self.same(made_laying(book, read_laying(names, book, print_laying(names, book, laying))), laying)
            store = Store()
            store.put("life", names, book)
            self.same(read_store(store.text()).book("life"), (names, book))

    def test_the_laying_is_right_on_as_few_wires_as_can_be(self):
        for source, names, book, window, laying in self.cases(182, 60):
            self.same(laying[0], least_wires(book, window))
            self.same((right(book, laying, window), why(book, laying, window)), (True, None))
            found = told(greatest, book, laying)
            if found is not None and not isinstance(found, tuple):
                self.assertTrue(window is not None and found >= window)
            row = drawn_row(source, book, 20)
            self.same(pulses_of(book, laying, row), sum(lot_of(book, laying, row)))
            self.assertLessEqual(pulses_of(book, laying, row), dearest(book, laying, 20))
            if pace(book, laying) is None:
                self.assertLess(len(row), 20)

    def test_a_world_a_script_and_a_reader_by_rests(self):
        rested = 0
        for source, names, book, window, laying in self.cases(183, 60):
            world, script = World(book, laying, window, "plain"), []
            rests = RestReader(book, laying, window) if window and laying[0] else None
            while len(script) < 300:
                deeds = deeds_of(book, world, window, 15)
                if not deeds:
                    break
                deed = deeds[source.below(len(deeds))]
                # Answers are sent for what the reader by rests has told, so it is looked at ahead of each one.
                if rests and (deed[0] == "answer" or source.below(4) == 0):
                    rests.look(tuple(n % m for n, m in zip(world.counts(), rests.rests())))
                    self.same(rests.told(), world.told())
                getattr(world, deed[0])(*deed[1:])
                script.append(deed)
                self.assertTrue(world.good())
            script = made_script(tuple(script))
            self.same(read_script(names, print_script(names, script)), script)
            played = run_script(book, laying, window, "plain", script)
            self.same(played, (world.said(), world.told(), world.counts(), world.answered(), ()))
            rested += world.still() and world.told() == world.said() != ()
        self.assertGreater(rested, 20)

    def test_a_run_and_a_tree(self):
        for source, names, book, window, laying in self.cases(184, 40):
            row = drawn_row(source, book, 8)
            if pulses_of(book, laying, row) > 2000:
                continue
            picks = tuple(source.below(99) for _ in range(7))
            self.same(whole_run(book, laying, window, "plain", row, picks)[0], row)
            tree = Tree(book, (0, 0, 2), (laying,) * 3, (window,) * 3)
            for message in row:
                tree.say(message)
            while not tree.still():
                for house in (1, 2, 3):
                    self.go_on(tree, house)
            self.same([tree.row(house) for house in range(4)], [row] * 4)

    def go_on(self, tree, house):
        """All that can be done on the link of the house."""
        for wire, number in enumerate(tree.away(house)):
            for _ in range(number):
                tree.come(house, wire)
        while tree.owed(house):
            tree.answer(house)
        self.assertTrue(tree.good())
        try:
            tree.send(house)
        except ValueError:
            pass

    def test_without_answers(self):
        for source, names, book, window, laying in self.cases(185, 60):
            if window is None:
                row = drawn_row(source, book, 10)
                counts = list(lot_of(book, laying, row))
                reader = Reader(book, laying)
                for wire, number in enumerate(counts):
                    for _ in range(source.below(number + 1)):
                        reader.hear(wire)
                self.same(row[:len(reader.told())], reader.told())
                size = 1
                for number in reader.counts():
                    size *= number + 1
                if size <= 20000:
                    known = sure(book, laying, reader.counts())
                    self.same(row[:len(known)], known)
                    self.same(known[:len(reader.told())], reader.told())

    def test_fewer_wires_are_not_enough(self):
        source = Source(186)
        shown = {}
        for k in range(150):
            book = source.book(4, 3, 6)
            window = (1, 2, 3, 4, None)[source.below(5)]
            least = least_wires(book, window)
            wires = 3 if least is None else least - 1
            if wires < 1:
                continue
            laying = carrying(source.laying(book, wires, 1 + source.below(6), 4))
            self.same(right(book, laying, window), False)
            if wires == 1:
                paper = pinch(book, laying)
            elif least is None:
                paper = again(book, laying)
            elif window is not None:
                paper = fall(book, laying, window)[1]
            else:
                continue
            self.same(paper_right(book, laying, window, paper), True)
            self.same(made_paper(book, laying, window, why(book, laying, window))[0], "cover")
            # Both worlds of the paper are heard alike, and the row of the first one is told in neither or in both.
            _, u, a, b, y = paper
            heard = hearing(book, laying, paper)
            self.same(tuple(heard.count(w) for w in range(wires)), lot_of(book, laying, u + (a,)))
            self.assertTrue(all(x <= z for x, z in zip(lot_of(book, laying, u + (a,)), lot_of(book, laying, u + (b,) + y))))
            shown[wires, least] = True
        self.assertEqual(set(shown), {(1, 2), (2, 3), (3, None)})

    def test_one_more_wire_changes_nothing(self):
        for source, names, book, window, laying in self.cases(187, 30):
            if laying[0]:
                found = told(greatest, book, wider(book, laying, source.below(laying[0])))
                if not isinstance(found, tuple):
                    self.same(found, greatest(book, laying))

    def test_the_least_number_depends_on_the_rows_alone(self):
        source = Source(188)
        for k in range(150):
            book = source.book(8, 3, 5)
            small = least_book(book)
            self.same((alike(book, small), verdict(small)), (True, verdict(book)))
            state = source.below(len(book))
            if book[state]:
                part = less(book, state, book[state][0][0])
                self.same(within(part, book), True)
                for one, two in zip(verdict(part)[0] + verdict(part)[1:], verdict(book)[0] + verdict(book)[1:]):
                    self.assertLessEqual(4 if one is None else one, 4 if two is None else two)

    def test_talks(self):
        source = Source(189)
        for k in range(60):
            names = drawn_names(source, 3)
            text = print_talk(names, drawn_talk(source, 6, 4, range(3)))
            used, talk = read_talk(text)
            book = book_of(talk)
            session = Session()
            self.same(session.row("talk t = " + text), f"states {len(book)}")
            self.same(session.row("show t"), print_book(used, book))
            self.same(session.row("least t 2"), str(least_wires(book, 2)))
            laying = make(book, 2)
            self.same(session.row("make t 2"), f"wires {laying[0]} places {len(laying[1])}")
            self.same(session.row("laying"), print_laying(used, book, laying))
            self.same(session.row("why 2"), "right")
            self.same(session.row("open 2 plain"), "open")
            row = drawn_row(source, book, 6)
            for message in row:
                self.same(session.row("say " + used[message]), "said")
                for wire, number in enumerate(lot_of(book, laying, row)):
                    while not session.row(f"come {wire}").startswith("refused"):
                        pass
                self.same(session.row("answer"), "answered")
            self.same(session.row("told"), " ".join(used[message] for message in row) or "-")


if __name__ == "__main__":
    unittest.main()
