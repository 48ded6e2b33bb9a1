"""Tables of scenes, whoever wrote them."""

from partedlanes.claims import is_told_table
from partedlanes.guards import PILE_RULES, ask_program, ask_rule
from partedlanes.plots import Plot
from partedlanes.roads import joins_of


def is_table(program, rule, value):
    """Whether any value is a table of scenes of a program; then it has all scenes that can come."""
    ask_program(program)
    ask_rule(rule, PILE_RULES)
    plot = Plot(program, joins_of(program, rule), False)
    return is_told_table(plot, plot.first_scene(1), value)
