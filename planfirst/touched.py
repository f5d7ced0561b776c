"""Texts that depend on a text that is left open: how they are joined, and what they can come to be."""

from planfirst.errors import NotGeneric


class Touched:
    """A text that is not told: fixed texts, and between each two of them the open one."""

    def __init__(self, fixed, met):
        self.fixed = fixed
        # The open texts, among its keys, by which a touched text is a known one that it met.
        # All that comes from one mark has the same dict.
        self.met = met

    def meet(self, known):
        """Note the open text by which this one is the known one, if there is one."""
        size = (len(known) - len("".join(self.fixed))) // (len(self.fixed) - 1)
        begin = len(self.fixed[0])
        text = known[begin:begin + size]
        if size >= 0 and text.join(list(self.fixed)) == known:
            self.met[text] = True


def mark():
    """Return what stands for the open text itself."""
    one = Touched(("", ""), {})
    # A tuple that begins with this text can be a Tag, without any comparison that would tell.
    one.meet("#")
    return one


def joined(parts):
    """Return the texts and integers one behind the other; of touched texts a touched one."""
    fixed = [""]
    met = None
    for part in parts:
        if isinstance(part, Touched):
            met = part.met
            fixed[-1] += part.fixed[0]
            fixed.extend(list(part.fixed[1:]))
        else:
            fixed[-1] += str(part)
    if met is None:
        return fixed[0]
    text = Touched(tuple(fixed), met)
    text.meet("#")
    return text


def meet(one, other):
    """Hold two things against each other of which one at least is a touched text: they are not the same.

    NotGeneric if both are, without an address: who asks knows it.
    """
    if isinstance(one, Touched) and isinstance(other, Touched):
        raise NotGeneric(None)
    if isinstance(one, str):
        other.meet(one)
    if isinstance(other, str):
        one.meet(other)


def become(one, other):
    """Note the open texts by which one of two tuples is the Tag that the other one is."""
    for part, facing in zip(one, other):
        if isinstance(part, Touched) and isinstance(facing, str):
            part.meet(facing)
        if isinstance(facing, Touched) and isinstance(part, str):
            facing.meet(part)
