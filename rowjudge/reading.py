"""Books as they are written: read from a text, and written line by line."""

from rowjudge.books import MOST_FACTS, MOST_TABLES, Book
from rowjudge.cells import read_cell, read_value, show_cell, show_value
from rowjudge.domains import Words, is_word, number_of, read_domain
from rowjudge.errors import BadLine, BadName, BadRow, TooMany
from rowjudge.tables import MOST_COLUMNS, MOST_ROWS, Table, refuse_way

FACT = "fact "
TABLE = "table "
WHEN = "when "
NAMED = ": "
TO = " -> "
BY = " by "
BETWEEN_FIELDS = " | "
BETWEEN_NAMES = ", "


# A table as its lines tell it: its domain is a text still, and a row is a pair of the fields' texts and the value's.
class Draft:
    def __init__(self, name, columns, domain, way):
        self.name = name
        self.columns = columns
        self.domain = domain
        self.way = way
        self.rows = []


# A refusal must come ahead of all others of later classes, on whatever lines: so each class has a round of its own.
def read_book(text):
    # A book of nothing has no line, not an empty one.
    lines = text.split("\n") if text else []
    facts = []
    drafts = []
    for line in lines:
        take_line(line, facts, drafts)
    refuse_counts(facts, drafts)
    refuse_names(facts, drafts)
    named = facts + [(draft.name, draft.domain) for draft in drafts]
    domains = dict([(name, read_domain(domain)) for name, domain in named])
    for draft in drafts:
        refuse_way(draft.way, domains[draft.name])
    for draft in drafts:
        refuse_fields(draft)
    cells = [cells_of(draft, domains) for draft in drafts]
    for draft in drafts:
        refuse_numbers(draft, domains[draft.name])
    codes = [codes_of(draft, domains[draft.name]) for draft in drafts]
    tables = [made_table(draft, domains, list(zip(cells[k], codes[k]))) for k, draft in enumerate(drafts)]
    # Table finds nothing more to refuse, and Book only a ring, which is the last class of all.
    return Book([(name, domains[name]) for name, domain in facts], tables)


def take_line(line, facts, drafts):
    if line.startswith(FACT):
        facts.append(fact_parts(line[len(FACT):]))
    elif line.startswith(TABLE):
        drafts.append(drafted(line[len(TABLE):]))
    elif line.startswith(WHEN) and drafts:
        drafts[-1].rows.append(row_parts(line[len(WHEN):]))
    else:
        raise BadLine(f"{line!r} is no line of a book, or a row without a table")


def fact_parts(text):
    parts = cut(text.partition(" "))
    return (parts[0], parts[2])


def drafted(text):
    named = cut(text.partition(NAMED))
    columns = cut(named[2].partition(TO))
    # No name of a way has the sign, but a domain might: so it is the last one that counts.
    ending = cut(columns[2].rpartition(BY))
    return Draft(named[0], columns[0].split(BETWEEN_NAMES), ending[0], ending[2])


def row_parts(text):
    parts = cut(text.partition(TO))
    return (parts[0].split(BETWEEN_FIELDS), parts[2])


# A text is handed in as Python's partition tells it: its middle is empty where the sign is not there.
def cut(parts):
    if not parts[1]:
        raise BadLine("a sign between the parts of a line is missing")
    return parts


def refuse_counts(facts, drafts):
    if len(facts) > MOST_FACTS or len(drafts) > MOST_TABLES:
        raise TooMany("a book has at most 20 facts and 30 tables")
    for draft in drafts:
        if len(draft.columns) > MOST_COLUMNS or len(draft.rows) > MOST_ROWS:
            raise TooMany("a table has at most 4 columns and 200 rows")


def refuse_names(facts, drafts):
    names = [name for name, domain in facts] + [draft.name for draft in drafts]
    for name in names:
        if not is_word(name):
            raise BadName(f"{name!r} is no word")
    if len(set(names)) < len(names):
        raise BadName("a name stands twice")
    for draft in drafts:
        refuse_columns(draft, names)


def refuse_columns(draft, names):
    for name in draft.columns:
        if name not in names or name == draft.name:
            raise BadName(f"{name!r} is no fact and no other table")
    if len(set(draft.columns)) < len(draft.columns):
        raise BadName("a column stands twice")


def refuse_fields(draft):
    for fields, value in draft.rows:
        if len(fields) != len(draft.columns):
            raise BadRow("a row has one field for each column")


def cells_of(draft, domains):
    return [row_cells(draft, domains, fields) for fields, value in draft.rows]


def row_cells(draft, domains, fields):
    return [read_cell(domains[name], field) for name, field in zip(draft.columns, fields)]


def refuse_numbers(draft, outcome):
    if isinstance(outcome, Words):
        return
    for fields, value in draft.rows:
        # It refuses a text that writes none.
        number_of(value)


def codes_of(draft, outcome):
    return [read_value(outcome, value) for fields, value in draft.rows]


def made_table(draft, domains, rows):
    columns = [domains[name] for name in draft.columns]
    return Table(draft.name, draft.columns, columns, domains[draft.name], draft.way, rows)


def show_book(book):
    lines = [FACT + name + " " + domain.written() for name, domain in book.facts]
    for table in book.tables:
        lines.append(head_text(table))
        lines.extend([row_text(table, k) for k in range(len(table.rows))])
    return "\n".join(lines)


def head_text(table):
    columns = BETWEEN_NAMES.join(table.names)
    return TABLE + table.name + NAMED + columns + TO + table.outcome.written() + BY + table.way


def row_text(table, k):
    row = table.rows[k]
    return WHEN + fields_text(table.domains, row[0]) + TO + show_value(table.outcome, row[1])


def fields_text(domains, cells):
    return BETWEEN_FIELDS.join([show_cell(domain, spans) for domain, spans in zip(domains, cells)])
