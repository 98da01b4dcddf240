"""The refusals: what is raised where something that is handed in is not as told."""

from passmarks.copies import copied

# Each class stands straight under Python's own, so none can take these methods from a common one.
# The message never shows a field: a field may be anything, also what has no short text.


class NoTable(ValueError):
    def __init__(self, field):
        ValueError.__init__(self, "marks or pairs that are no table's")
        self.field = copied(field)

    def __eq__(self, other):
        return isinstance(other, NoTable) and self.field == other.field


class NoMark(ValueError):
    def __init__(self, mark):
        ValueError.__init__(self, "no mark of the table")
        self.mark = copied(mark)

    def __eq__(self, other):
        return isinstance(other, NoMark) and self.mark == other.mark


class NoRow(ValueError):
    def __init__(self, at):
        ValueError.__init__(self, "no row of the table")
        self.at = copied(at)

    def __eq__(self, other):
        return isinstance(other, NoRow) and self.at == other.at


class NoWord(ValueError):
    def __init__(self, at):
        ValueError.__init__(self, "no word of so many places")
        self.at = copied(at)

    def __eq__(self, other):
        return isinstance(other, NoWord) and self.at == other.at


class NoOrder(ValueError):
    def __init__(self, at):
        ValueError.__init__(self, "no order of runners")
        self.at = copied(at)

    def __eq__(self, other):
        return isinstance(other, NoOrder) and self.at == other.at


class NoRung(ValueError):
    def __init__(self, rung):
        ValueError.__init__(self, "no rung that can be done there")
        self.rung = copied(rung)

    def __eq__(self, other):
        return isinstance(other, NoRung) and self.rung == other.rung


class NotAlike(ValueError):
    def __init__(self):
        ValueError.__init__(self)

    def __eq__(self, other):
        return isinstance(other, NotAlike)


class NoNames(ValueError):
    def __init__(self):
        ValueError.__init__(self)

    def __eq__(self, other):
        return isinstance(other, NoNames)


class NotWell(ValueError):
    def __init__(self, fault):
        ValueError.__init__(self, "the table made one is not well told")
        self.fault = copied(fault)

    def __eq__(self, other):
        return isinstance(other, NotWell) and self.fault == other.fault


class NotPart(ValueError):
    def __init__(self, pair):
        ValueError.__init__(self, "these two marks do not stay among the told ones")
        self.pair = copied(pair)

    def __eq__(self, other):
        return isinstance(other, NotPart) and self.pair == other.pair


class SameMark(ValueError):
    def __init__(self, mark):
        ValueError.__init__(self, "both tables have this mark")
        self.mark = copied(mark)

    def __eq__(self, other):
        return isinstance(other, SameMark) and self.mark == other.mark


class NoText(ValueError):
    def __init__(self, row):
        ValueError.__init__(self, "no text of this kind")
        self.row = copied(row)

    def __eq__(self, other):
        return isinstance(other, NoText) and self.row == other.row


class NoSight(ValueError):
    def __init__(self, number):
        ValueError.__init__(self, "no sighting of so many")
        self.number = copied(number)

    def __eq__(self, other):
        return isinstance(other, NoSight) and self.number == other.number


class NoDeed(ValueError):
    def __init__(self, number):
        ValueError.__init__(self, "no deed")
        self.number = copied(number)

    def __eq__(self, other):
        return isinstance(other, NoDeed) and self.number == other.number


class NoAsk(ValueError):
    def __init__(self, row):
        ValueError.__init__(self, "nothing that can be asked or done")
        self.row = copied(row)

    def __eq__(self, other):
        return isinstance(other, NoAsk) and self.row == other.row


class Unread(ValueError):
    def __init__(self, row):
        ValueError.__init__(self, "a row that cannot be read")
        self.row = copied(row)

    def __eq__(self, other):
        return isinstance(other, Unread) and self.row == other.row


class Unseen(ValueError):
    def __init__(self, name):
        ValueError.__init__(self, "no beginning lets all looks be")
        self.name = copied(name)

    def __eq__(self, other):
        return isinstance(other, Unseen) and self.name == other.name


class Unfit(ValueError):
    def __init__(self, name):
        ValueError.__init__(self, "the marks or the table are others")
        self.name = copied(name)

    def __eq__(self, other):
        return isinstance(other, Unfit) and self.name == other.name


class NotThree(RuntimeError):
    def __init__(self, fault):
        RuntimeError.__init__(self, "the table is not THREE")
        self.fault = copied(fault)

    def __eq__(self, other):
        return isinstance(other, NotThree) and self.fault == other.fault


class NotSided(RuntimeError):
    def __init__(self, fault):
        RuntimeError.__init__(self, "the table is not SIDED")
        self.fault = copied(fault)

    def __eq__(self, other):
        return isinstance(other, NotSided) and self.fault == other.fault


class NotTwice(RuntimeError):
    def __init__(self, fault):
        RuntimeError.__init__(self, "the table is not TWICE")
        self.fault = copied(fault)

    def __eq__(self, other):
        return isinstance(other, NotTwice) and self.fault == other.fault


class NotOneOne(RuntimeError):
    def __init__(self, fault):
        RuntimeError.__init__(self, "the table is not ONE-ONE")
        self.fault = copied(fault)

    def __eq__(self, other):
        return isinstance(other, NotOneOne) and self.fault == other.fault


class NoNumber(IndexError):
    def __init__(self, number):
        IndexError.__init__(self, "no number of these")
        self.number = copied(number)

    def __eq__(self, other):
        return isinstance(other, NoNumber) and self.number == other.number


class NoPlace(IndexError):
    def __init__(self, place):
        IndexError.__init__(self, "no place of these")
        self.place = copied(place)

    def __eq__(self, other):
        return isinstance(other, NoPlace) and self.place == other.place


class Full(IndexError):
    def __init__(self, most):
        IndexError.__init__(self, "no room for more")
        self.most = copied(most)

    def __eq__(self, other):
        return isinstance(other, Full) and self.most == other.most


class NoName(KeyError):
    def __init__(self, name):
        KeyError.__init__(self, "nothing has this name")
        self.name = copied(name)

    def __eq__(self, other):
        return isinstance(other, NoName) and self.name == other.name


class Taken(KeyError):
    def __init__(self, name):
        KeyError.__init__(self, "the name is taken")
        self.name = copied(name)

    def __eq__(self, other):
        return isinstance(other, Taken) and self.name == other.name


class Needed(LookupError):
    def __init__(self, name):
        LookupError.__init__(self, "the table has rows")
        self.name = copied(name)

    def __eq__(self, other):
        return isinstance(other, Needed) and self.name == other.name


class Hidden(LookupError):
    def __init__(self, name):
        LookupError.__init__(self, "the row has hidden places")
        self.name = copied(name)

    def __eq__(self, other):
        return isinstance(other, Hidden) and self.name == other.name


class TooMany(ArithmeticError):
    def __init__(self, most):
        ArithmeticError.__init__(self, "more than may be")
        self.most = copied(most)

    def __eq__(self, other):
        return isinstance(other, TooMany) and self.most == other.most


class TooLong(ArithmeticError):
    def __init__(self, most):
        ArithmeticError.__init__(self, "longer than may be")
        self.most = copied(most)

    def __eq__(self, other):
        return isinstance(other, TooLong) and self.most == other.most
