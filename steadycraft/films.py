"""Films: a run that goes on under code, looked at tick by tick, there and back."""

from steadycraft.errors import BadRun, NoNumber, NoRun, NoShape
from steadycraft.kinds import is_between
from steadycraft.running import Period, first_of, undisturbed
from steadycraft.runs import is_run, walked_places
from steadycraft.steering import shape_of

MOST_EVERY = 100


def check_chosen(code, periods):
    """Asks whether code does what the periods of a run tell, without knocks."""
    stand, row = first_of(code), 0
    for at, (reading, told, _) in enumerate(periods):
        period, word = undisturbed(code, stand, reading)
        stand, row = period.stand(), row if period.row is None else period.row
        if word != "done" or (told is not None and told != row):
            raise BadRun(at)


class Film:
    """A run under code: it stands at a tick; stands of code are kept at begins of some periods."""

    def __init__(self, craft, code, run, every):
        if code.shape != shape_of(craft):
            raise NoShape()
        if not is_run(craft, run):
            raise NoRun()
        check_chosen(code, run[1])
        if not is_between(1, MOST_EVERY, every):
            raise NoNumber()
        self._craft = craft
        self._code = code
        self._run = run
        self._every = every
        self._places = walked_places(craft, run)
        # The ticks at which periods begin.
        self._begins = [0]
        for _, _, pushes in run[1][:-1]:
            self._begins.append(self._begins[-1] + len(pushes))
        self._at = 0
        self._period = 0
        self._stand = first_of(code)
        self._kept = {0: self._stand}
        self._worked = 0

    def many(self):
        return self._begins[-1] + len(self._places[-1]) - 1

    def seek(self, tick):
        if not is_between(0, self.many(), tick):
            raise NoNumber()
        goal = self._period_at(tick)
        begin = max([period for period in self._kept if period <= goal])
        if not begin <= self._period <= goal:
            self._period = begin
            self._stand = self._kept[begin]
        while self._period < goal:
            self._work()
        self._at = tick

    def _period_at(self, tick):
        """The period at a tick, the later one at a begin."""
        return max([period for period, begin in enumerate(self._begins) if begin <= tick])

    def _work(self):
        """Goes on to the next begin by a period of code."""
        period, _ = undisturbed(self._code, self._stand, self.reading())
        self._period += 1
        self._stand = period.stand()
        self._worked += 1
        if self._period % self._every == 0:
            self._kept[self._period] = self._stand

    def at(self):
        return self._at

    def period(self):
        return self._period

    def place(self):
        return self._places[self._period][self._at - self._begins[self._period]]

    def acts(self):
        return 0 if self._period == 0 else self._run[1][self._period - 1][1]

    def reading(self):
        return self._run[1][self._period][0]

    def stand(self):
        return self._stand

    def trace(self):
        period, numbers = Period(self._code, self._stand, self.reading()), []
        while self._code.rows[period.at][0] != "end":
            numbers.append(period.at)
            period.does_next()
        return tuple(numbers) + (period.at,)

    def kept(self):
        return tuple(sorted(list(self._kept)))

    def worked(self):
        return self._worked

    def copy(self):
        other = Film(self._craft, self._code, self._run, self._every)
        other._at = self._at
        other._period = self._period
        other._stand = self._stand
        other._kept = {period: self._kept[period] for period in self._kept}
        other._worked = self._worked
        return other
