"""How the steps of a plan are taken, one request after the other."""

from laterknown.addresses import kind_of
from laterknown.drift import listed_entry
from laterknown.errors import Denied, NoProgram, Refused, Stale, Unsure
from laterknown.ordering import Order
from laterknown.outcomes import outcome
from laterknown.recording import row_address, row_until, with_row, without_row
from laterknown.settling import candidates_for, close_as_done, close_as_not_done, entry_of_row
from laterknown.stages import plan
from laterknown.staging import stage_in, survey_of
from laterknown.states import Row
from laterknown.telling import is_allowed, judged_in

# What comes of a request with each trouble: whether it takes place, and whether anything is told.
TAKES_PLACE = {"ok": True, "fail": False, "lost": True, "void": False, "crash": True, "halt": False}
IS_TOLD = {"ok": True, "fail": True, "lost": False, "void": False, "crash": False, "halt": False}
STOPPING = ("crash", "halt")


def check_sure(ledger):
    """Raises NoProgram, or Unsure if a row under way has candidates."""
    if ledger.wished is None:
        raise NoProgram()
    for row in ledger.recorded.under_way:
        found = candidates_for(ledger, row)
        if found:
            raise Unsure(row_address(row), found)


def plan_now(ledger):
    """The plan of a house as it is now."""
    check_sure(ledger)
    return plan(ledger.wished, ledger.recorded)


def check_steps(given, found):
    """Raises Stale unless the steps of a plan are those of the stage of now."""
    for step in given:
        if step not in found:
            raise Stale(step)
    if len(given) < len(found):
        raise Stale(None)


def check_rules(survey, stage):
    """Raises Denied if a rule denies what the stage of a survey does."""
    denied = [address for address, _, word in judged_in(survey, stage) if word == "denied"]
    if denied:
        raise Denied(min(denied))


class Errand:
    """Takes the steps of a plan for a house; they are checked when it is begun."""

    def __init__(self, ledger, given, troubles):
        check_sure(ledger)
        survey = survey_of(ledger.wished, ledger.recorded)
        stage = stage_in(survey)
        check_steps(given, stage.sequence)
        self.ledger = ledger
        self.troubles = troubles
        self.deeds = stage.deeds
        # The rules come last, for they may ask for more rows than those of the stage.
        self.behind = Order(stage).behind
        check_rules(survey, stage)
        self.done = {}
        self.sent = 0
        self.has_stopped = False

    def take(self, step):
        """Takes a step; returns the word for what came of it."""
        if not all([earlier in self.done for earlier in self.behind[step]]):
            return "skipped"
        row = self.row_for(step)
        if row.fields is None and step[0] in ("make", "change"):
            return "stale"
        if row.fields is not None and not is_allowed(self.ledger.wished, self.ledger.recorded, step[1]):
            return "denied"
        if not self.is_as_recorded(row):
            return "stale"
        # The number is taken by the row that is written, not by one that was only thought of.
        self.ledger.next_row_number()
        self.ledger.record(with_row(self.ledger.recorded, row))
        word = self.request(row)
        if word == "done":
            self.done[step] = True
        return word

    def row_for(self, step):
        """The row that is written for a step if nothing stands against it."""
        fields = None
        if step[0] in ("make", "change"):
            fields = outcome(self.ledger.wished, self.ledger.recorded).fields_of(step[1])
        action = "drop" if step[0] == "drop" else self.deeds[step[1]]
        return Row(self.ledger.many_rows + 1, step, action, fields, self.ledger.realm.last, None)

    def is_as_recorded(self, row):
        """Whether the thing that a row changes or ends, or the elder one of its address, is as it is recorded."""
        if row.step[0] == "make" and row.action != "ahead":
            return True
        entry = entry_of_row(self.ledger.recorded, row)
        if entry is None:
            return False
        listed = listed_entry(self.ledger.realm, entry)
        return listed is not None and listed.fields == entry.fields

    def request(self, row):
        """Sends the request of a row; returns the word for what came of it."""
        trouble = self.troubles[self.sent] if self.sent < len(self.troubles) else "ok"
        self.sent += 1
        word, number = "failed", None
        if TAKES_PLACE[trouble]:
            word, number = self.sent_request(row)
        if not IS_TOLD[trouble]:
            self.leave_under_way(row, trouble)
            return "open"
        if word == "done":
            close_as_done(self.ledger, row, number)
        else:
            close_as_not_done(self.ledger, row)
        return word

    def leave_under_way(self, row, trouble):
        """Leaves a row of whose request nothing was told."""
        self.has_stopped = trouble in STOPPING
        if not self.has_stopped:
            bare = without_row(self.ledger.recorded, row.number)
            self.ledger.record(with_row(bare, row_until(row, self.ledger.realm.last)))

    def sent_request(self, row):
        """The word for what the world makes of a request, and the number of the thing."""
        try:
            return "done", self.ask_world(row)
        except Refused:
            return "refused", None

    def ask_world(self, row):
        """Asks the world for what a row says; returns the number of the thing."""
        realm = self.ledger.realm
        word, place = row.step
        if word == "make":
            kind = kind_of(place)
            return realm.make(kind, row.fields, row.number if realm.kinds[kind].token else None)
        number = entry_of_row(self.ledger.recorded, row).number
        if word == "change":
            realm.change(number, row.fields)
        else:
            realm.delete(number)
        return number
