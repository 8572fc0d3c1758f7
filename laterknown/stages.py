"""Plans: what is done in one stage, and what waits for a later one."""

from laterknown.errors import NoAddress
from laterknown.staging import stage_in, survey_of
from laterknown.telling import told_fields


class Plan:
    """The steps of a stage, what is told of the fields, and what waits."""

    def __init__(self, steps, told, waiting):
        self._steps = steps
        self._told = told
        self._waiting = waiting

    @property
    def steps(self):
        """The steps, each the least one that can come next."""
        return self._steps

    @property
    def waiting(self):
        """The addresses, the left things and the blocks that wait, ascending."""
        return self._waiting

    def __getitem__(self, at):
        if at not in self:
            raise NoAddress(at)
        return self._told[at]

    def __iter__(self):
        raise TypeError("a plan is asked for its steps")

    def __contains__(self, x):
        # What is no string may have no hash, so it is never looked up.
        return isinstance(x, str) and x in self._told

    def __len__(self):
        return len(self._steps)

    def __bool__(self):
        return bool(self._steps)

    def __eq__(self, other):
        if not isinstance(other, Plan) or self._steps != other._steps or self._waiting != other._waiting:
            return False
        return self._told == other._told


def plan(program, state):
    """The plan of the next stage."""
    stage = stage_in(survey_of(program, state))
    told = {address: told_fields(stage, address) for address in stage.giving()}
    return Plan(stage.sequence, told, stage.waiting_names())
