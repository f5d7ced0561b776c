"""Worlds: the objects that really stand."""

from planfirst.equality import equal
from planfirst.errors import Gone, InUse, Taken
from planfirst.kinds import given_names, surrounded
from planfirst.values import fresh, is_tag


class World:
    """Objects of some kinds, which can be made, changed, read and destroyed."""

    def __init__(self, kinds):
        self._kinds = {name: kinds[name] for name in kinds}
        # The attributes of the objects as they are kept, by their ids, in the order of their making.
        self._standing = {}
        # The number of the Tag that was told last.
        self._last = 0

    def things(self):
        """Return a dict from the ids of all objects to (kind, attributes)."""
        return {tag: (tag[1], fresh(self._standing[tag])) for tag in self._standing}

    def read(self, tag):
        """Return the attributes of the object as the world tells them, or None if there is no such object."""
        if not self._has(tag):
            return None
        attributes = fresh(self._standing[tag])
        for row in self._kinds[tag[1]].given:
            attributes[row[0]] = _as_told(attributes[row[0]], row[3])
        return attributes

    def copy(self):
        """Return a world that is alike and goes its own way from now on."""
        world = World(self._kinds)
        world._standing = {tag: fresh(self._standing[tag]) for tag in self._standing}
        world._last = self._last
        return world

    def make(self, kind, given):
        """Make an object with these values and return its id; Taken if another one has its single value."""
        attributes = {row[0]: _as_chosen(fresh(given.get(row[0])), row[1]) for row in self._kinds[kind].given}
        self._refuse_taken(kind, attributes, None)
        tag = self._next_tag(kind)
        attributes["id"] = tag
        self._standing[tag] = attributes
        self._mark(tag)
        self._surround(tag)
        return tag

    def change(self, tag, given):
        """Give the object these values; Gone, or Taken if another one has the single value among them."""
        self._refuse_gone(tag)
        self._refuse_taken(tag[1], given, tag)
        for name in given_names(self._kinds[tag[1]]):
            if name in given:
                self._standing[tag][name] = fresh(given[name])
        self._mark(tag)
        self._surround(tag)

    def destroy(self, tag):
        """Destroy the object; Gone, or InUse if another one holds it."""
        self._refuse_gone(tag)
        for other in self._standing:
            if other != tag and tag in self._held_by(other):
                raise InUse(other)
        del self._standing[tag]

    def alter(self, tag, attribute, value):
        """Give the object this value of a given attribute, as others do it who look at nothing; Gone."""
        self._refuse_gone(tag)
        self._standing[tag][attribute] = fresh(value)
        self._surround(tag)

    def _has(self, tag):
        # A look-up alone would take True for 1, and can't be asked of everything.
        return is_tag(tag) and tag in self._standing

    def _refuse_gone(self, tag):
        if not self._has(tag):
            raise Gone(tag)

    def _refuse_taken(self, kind, given, tag):
        """Refuse values of an object (None: of a new one) of which another one has the single one."""
        single = self._kinds[kind].single
        value = given.get(single)
        if value is None:
            return
        for other in self._standing:
            if other[1] == kind and other != tag and equal(self._standing[other][single], value):
                raise Taken(other)

    def _next_tag(self, kind):
        self._last += 1
        return ("#", kind, self._last)

    def _mark(self, tag):
        for attribute, rule in self._kinds[tag[1]].made:
            if rule[0] == "mark":
                self._standing[tag][attribute] = self._next_tag(tag[1])

    def _surround(self, tag):
        attributes = self._standing[tag]
        for attribute, rule in self._kinds[tag[1]].made:
            if rule[0] == "around":
                attributes[attribute] = surrounded(rule, attributes[rule[1]])

    def _held_by(self, tag):
        """Return the ids that the object holds."""
        found = []
        for name in self._kinds[tag[1]].holds:
            found.extend(_tags_in(self._standing[tag][name]))
        return found


def _as_chosen(value, sort):
    """Return the value of an attribute of this sort as an object is made with it."""
    return "filled" if sort == "filled" and value is None else value


def _as_told(value, reading):
    """Return the value as the world tells it; the reading is None or a dict."""
    if reading is not None and isinstance(value, str):
        return reading.get(value, value)
    return value


def _tags_in(value):
    """Return the ids that an attribute with this value holds."""
    if is_tag(value):
        return [value]
    if isinstance(value, tuple) and all([is_tag(part) for part in value]):
        return list(value)
    return []
