"""The errors of the package, one class for each kind of failure."""

from planfirst.equality import equal


class PlanError(ValueError):
    """What all errors of the package are; told are the values from which one was made."""

    def __init__(self, *told):
        self.told = told
        self.class_name = self.__class__.__name__

    def __eq__(self, other):
        return type(self) is type(other) and equal(self.told, other.told)


class Misfit(PlanError):
    """An operation of this expression does not fit its parts, or a name in it is not there."""

    def __init__(self, expression):
        super().__init__(expression)
        self.expression = expression


class NoKind(PlanError):
    """What was passed is no Kind, by this part of it."""

    def __init__(self, part):
        super().__init__(part)
        self.part = part


class NoConfig(PlanError):
    """What was passed is no Config, by this parameter."""

    def __init__(self, at):
        super().__init__(at)
        self.at = at


class BadConfig(PlanError):
    """The configuration has, at this address, the problem that the word tells."""

    def __init__(self, at, why):
        super().__init__(at, why)
        self.at = at
        self.why = why


class NoValue(PlanError):
    """This parameter has no value, or there is no such parameter."""

    def __init__(self, param):
        super().__init__(param)
        self.param = param


class Unsure(PlanError):
    """How many instances this block has is not known yet."""

    def __init__(self, address):
        super().__init__(address)
        self.address = address


class BadMany(PlanError):
    """The count or the keys of this block are not as they must be."""

    def __init__(self, address):
        super().__init__(address)
        self.address = address


class Lacking(PlanError):
    """At this address a wanted attribute is not given."""

    def __init__(self, address, attribute):
        super().__init__(address, attribute)
        self.address = address
        self.attribute = attribute


class Refused(PlanError):
    """What stands at these addresses may not be dealt with in this way."""

    def __init__(self, addresses):
        super().__init__(addresses)
        self.addresses = addresses


class Ring(PlanError):
    """Each of these steps must go ahead of the next, and the last ahead of the first."""

    def __init__(self, steps):
        super().__init__(steps)
        self.steps = steps


class Taken(PlanError):
    """The object with this id has the single value already."""

    def __init__(self, tag):
        super().__init__(tag)
        self.tag = tag


class Gone(PlanError):
    """There is no object with this id."""

    def __init__(self, tag):
        super().__init__(tag)
        self.tag = tag


class InUse(PlanError):
    """The object with this id holds the one to be destroyed."""

    def __init__(self, tag):
        super().__init__(tag)
        self.tag = tag


class Occupied(PlanError):
    """An object stands at this address already."""

    def __init__(self, address):
        super().__init__(address)
        self.address = address


class Owned(PlanError):
    """The object at this address has the id already."""

    def __init__(self, address):
        super().__init__(address)
        self.address = address


class NotThere(PlanError):
    """No object stands at this address."""

    def __init__(self, address):
        super().__init__(address)
        self.address = address


class Locked(PlanError):
    """The store is locked by this holder, or by none where one is asked for."""

    def __init__(self, holder):
        super().__init__(holder)
        self.holder = holder


class Stale(PlanError):
    """The state has this serial, not the one that is asked for."""

    def __init__(self, serial):
        super().__init__(serial)
        self.serial = serial


class NotGeneric(PlanError):
    """At this address it depends on the very text of the parameter."""

    def __init__(self, address):
        super().__init__(address)
        self.address = address


class BadOrder(PlanError):
    """What was passed is no order of the steps."""

    def __init__(self, text):
        super().__init__(text)


class BadSteps(PlanError):
    """What was passed are no steps that can be taken so."""

    def __init__(self, text):
        super().__init__(text)
