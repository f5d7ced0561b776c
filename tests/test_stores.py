"""Point 3.4: stores."""

import unittest

import odd
from planfirst.errors import Locked, PlanError, Stale
from planfirst.states import State, empty
from planfirst.stores import Store


def state(serial, **outputs):
    return State({}, {}, outputs, serial)


class Case(unittest.TestCase):
    def refused(self, error, value, store, deed, *passed):
        """Whether the deed is refused so, and changes nothing."""
        before = store.kept()
        with self.subTest(deed, passed=passed):
            with self.assertRaises(PlanError) as caught:
                getattr(store, deed)(*passed)
            self.assertIs(type(caught.exception), error)
            found = caught.exception.holder if error is Locked else caught.exception.serial
            self.assertEqual(repr(found), repr(value))
            self.assertEqual(store.kept(), before)


class Stores(Case):
    def test_keeps_a_state(self):
        for one in (empty(), state(5, o=1)):
            self.assertEqual(Store(one).kept(), one)
            self.assertIsInstance(Store(one).kept(), State)

    def test_by_the_holder(self):
        store = Store(state(3))
        self.assertIsNone(store.lock("one"))
        self.assertIsNone(store.write("one", state(4, o=1)))
        self.assertEqual(store.kept(), state(4, o=1))
        self.assertIsNone(store.write("one", state(4, o=2)))
        self.assertIsNone(store.write("one", state(5)))
        self.assertEqual(store.kept(), state(5))
        self.assertIsNone(store.unlock("one"))
        self.assertEqual(store.kept(), state(5))
        self.assertIsNone(store.lock("two"))
        self.assertIsNone(store.unlock("two"))
        self.assertIsNone(store.lock("two"))

    def test_texts_of_any_kind(self):
        for holder in odd.TEXTS:
            store = Store(empty())
            store.lock(holder)
            self.refused(Locked, holder, store, "lock", "other")
            store.write(holder, state(1))
            store.unlock(holder)
            store.lock("other")

    def test_locked_by_anyone(self):
        store = Store(empty())
        store.lock("one")
        for other in ("one", "two", "", *odd.ALL):
            self.refused(Locked, "one", store, "lock", other)
        # It is still the first one's.
        store.write("one", state(1))
        store.unlock("one")

    def test_by_another_one(self):
        store = Store(state(3))
        store.lock("one")
        for other in ("two", "", "One", "one ", *odd.ALL):
            self.refused(Locked, "one", store, "unlock", other)
            for passed in (state(3), state(4), state(9), *odd.ALL[::9]):
                self.refused(Locked, "one", store, "write", other, passed)
        store.write("one", state(4))

    def test_without_a_holder(self):
        store = Store(state(3))
        for again in range(2):
            for other in ("one", "", None, *odd.ALL):
                self.refused(Locked, None, store, "unlock", other)
                for passed in (state(3), state(4), state(9), *odd.ALL[::9]):
                    self.refused(Locked, None, store, "write", other, passed)
            if not again:
                store.lock("one")
                store.unlock("one")

    def test_serials(self):
        for kept in (0, 1, 7, -3):
            for serial in range(-6, 12):
                store = Store(state(kept, o=1))
                store.lock("one")
                if serial in (kept, kept + 1):
                    store.write("one", state(serial, o=2))
                    self.assertEqual(store.kept(), state(serial, o=2))
                else:
                    self.refused(Stale, kept, store, "write", "one", state(serial, o=2))

    def test_the_serial_of_what_is_kept_now(self):
        store = Store(state(3))
        store.lock("one")
        store.write("one", state(4))
        self.refused(Stale, 4, store, "write", "one", state(3))
        store.write("one", state(5))
        self.refused(Stale, 5, store, "write", "one", state(7))

    def test_what_is_no_state_with_an_integer(self):
        store = Store(state(1))
        store.lock("one")
        others = [one for one in odd.ALL if not isinstance(one, State)]
        for thing in (*others, state(True), state(1.0), state("1"), state(None)):
            self.refused(Stale, 1, store, "write", "one", thing)

    def test_a_refused_write_leaves_the_lock(self):
        store = Store(state(1))
        store.lock("one")
        self.refused(Stale, 1, store, "write", "one", state(9))
        self.refused(Locked, "one", store, "write", "two", state(1))
        self.refused(Locked, "one", store, "lock", "two")
        store.unlock("one")
        store.lock("two")

    def test_two_stores(self):
        one, other = Store(state(1)), Store(state(1))
        one.lock("one")
        other.lock("two")
        one.write("one", state(2))
        self.assertEqual(other.kept(), state(1))


if __name__ == "__main__":
    unittest.main()
