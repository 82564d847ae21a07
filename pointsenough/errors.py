"""The errors of the package. A field says what the document tells beside the name."""


class PointError(ValueError):
    """The base class of all errors of the package."""


class BadPrime(PointError):
    """What was handed in as p is no prime from 5 to 2 ** 31 - 1."""


class BadNumber(PointError):
    """What was handed in as a number is none."""


class Nought(PointError):
    """What must not be nought is nought."""


class BadLine(PointError):
    """What was handed in as a line is none."""


class TooMany(PointError):
    """A line would have more numbers than the most that it may have."""

    def __init__(self, most):
        self.most = most


class BadPoints(PointError):
    """What was handed in as pairs or places is no tuple of such."""


class SamePlace(PointError):
    """A place is told twice."""

    def __init__(self, place):
        self.place = place


class TooGreat(PointError):
    """What was asked for is greater than the most that is reckoned."""

    def __init__(self, most):
        self.most = most


class BadTable(PointError):
    """What was handed in as a table is none, or has another size."""


class BadRow(PointError):
    """What was handed in as a row is none."""


class BadPoint(PointError):
    """What was handed in as a point is none, or has another length."""


class UnlikePoints(PointError):
    """Two points have unlike lengths."""


class BadMany(PointError):
    """What was handed in as a number of names is none."""


class BadRule(PointError):
    """What was handed in as a rule is none."""


class BadName(PointError):
    """What was handed in as a name is none."""


class BadSum(PointError):
    """What was handed in as a sum is none."""


class BadDraws(PointError):
    """What was handed in as draws are none, or of another number."""


class BadDegree(PointError):
    """What was handed in as a degree is none."""


class BadAnswerer(PointError):
    """What was handed in as an answerer is none."""


class BadLines(PointError):
    """What was handed in as lines is no tuple of lines."""


class NotText(PointError):
    """What was handed in as a text is none."""


class BadTalk(PointError):
    """The line of a talk at this index cannot stand there."""

    def __init__(self, at):
        self.at = at


class BadNames(PointError):
    """What was handed in as names are none."""


class BadForm(PointError):
    """The word of a form that begins at this index cannot stand there."""

    def __init__(self, at):
        self.at = at


class NoForm(PointError):
    """What was handed in as a form's tree is none."""


class BadWeb(PointError):
    """What was handed in as a web is none."""


class BadLength(PointError):
    """What was handed in as a length of walks is none."""


class BadSizes(PointError):
    """What was handed in as sizes are none."""


class BadMarked(PointError):
    """What was handed in as a claim with marks is none."""


class BadProgram(PointError):
    """The line of a program at this index cannot stand there."""

    def __init__(self, at):
        self.at = at


class NoProgram(PointError):
    """What was handed in as a program is none."""


class BadInputs(PointError):
    """What was handed in as inputs are none."""


class BadOutputs(PointError):
    """What was handed in as outputs are none."""


class BadLayer(PointError):
    """What was handed in as a layer is none."""


class BadSign(PointError):
    """What was handed in as a sign is none."""


class BadSums(PointError):
    """What was handed in as sums to be joined are none."""


class BadBag(PointError):
    """What was handed in as a bag is none."""


class BadFirst(PointError):
    """What was handed in as first values is none."""


class BadDeeds(PointError):
    """What was handed in as deeds are none."""


class BadLast(PointError):
    """What was handed in as last values is none."""


class BadMachine(PointError):
    """The row of a machine's text at this index cannot stand there."""

    def __init__(self, at):
        self.at = at


class NoMachine(PointError):
    """What was handed in as a machine is none."""


class BadStanding(PointError):
    """What was handed in as a standing is none."""


class BadSealed(PointError):
    """What was handed in as a sealed run is none."""


class BadColumn(PointError):
    """What was handed in as a column's name is none."""


class BadResult(PointError):
    """What was handed in as a result is none."""


class BadSheet(PointError):
    """The line of a sheet at this index cannot stand there."""

    def __init__(self, at):
        self.at = at


class NoSheet(PointError):
    """What was handed in as a sheet is none."""


class NoClaim(PointError):
    """What was handed in as a claim's name is none."""


class Closed(PointError):
    """A claim is not open any more."""


class NothingDone(PointError):
    """There is nothing to be taken back."""


class BadVars(PointError):
    """What was handed in as vars are none."""


class BadSaying(PointError):
    """The word of a saying that begins at this index cannot stand there."""

    def __init__(self, at):
        self.at = at


class NoSaying(PointError):
    """What was handed in as a saying's tree is none."""


class BadValues(PointError):
    """What was handed in as values of the vars are none."""


class BadRuleText(PointError):
    """The sign of a rule's text at this index cannot stand there."""

    def __init__(self, at):
        self.at = at


class BadCase(PointError):
    """What was handed in as a case is none."""


class BadCaseText(PointError):
    """The line of a case's text at this index cannot stand there."""

    def __init__(self, at):
        self.at = at
