"""A recognizer that takes the grammar of point 6 as it stands, and tells the first bad token."""

import re

GRAMMAR = """
PROGRAM: DECL | PROGRAM DECL
DECL: record NAME { FIELDS }
DECL: external NAME ( PARAMS ) : NUMBER STEADY needs EXPR gives EXPR ;
DECL: ENTRY function NAME ( PARAMS ) : KIND { VARS STATEMENTS }
FIELDS: | FIELDS NAME : KIND ;
STEADY: | steady
ENTRY: | entry
PARAMS: | PARAMLIST
PARAMLIST: NAME : KIND | PARAMLIST , NAME : KIND
KIND: NUMBER | NAME
VARS: | VARS VAR
VAR: var NAME : KIND ; | var NAME : NUMBER [ NUMBER ] ;
STATEMENTS: | STATEMENTS STATEMENT
BLOCK: { STATEMENTS }
STATEMENT: let PLACE = EXPR ; | make NAME = NAME ; | call TARGET NAME ( ARGS ) ;
STATEMENT: if EXPR BLOCK ELSE | while EXPR BLOCK | return EXPR ; | raise NAME ; | assert EXPR ;
STATEMENT: try BLOCK CATCHES
TARGET: | NAME =
ARGS: | ARGLIST
ARGLIST: EXPR | ARGLIST , EXPR
ELSE: | else BLOCK
CATCHES: catch NAME BLOCK | CATCHES catch NAME BLOCK
PLACE: NAME | NAME [ EXPR ] | NAME . NAME
EXPR: XOR | EXPR BAR XOR
XOR: AND | XOR ^ AND
AND: CMP | AND & CMP
CMP: SHIFT | SHIFT == SHIFT | SHIFT != SHIFT | SHIFT < SHIFT | SHIFT <= SHIFT
SHIFT: SUM | SHIFT << SUM | SHIFT >> SUM
SUM: MUL | SUM + MUL | SUM - MUL
MUL: SIGNED | MUL * SIGNED
SIGNED: BOTTOM | ~ SIGNED | - SIGNED
BOTTOM: ( EXPR ) | NUMBER # NUMBER | PLACE | null | pick ( EXPR , EXPR , EXPR )
BOTTOM: wide ( EXPR , NUMBER ) | div ( EXPR , EXPR ) | rem ( EXPR , EXPR )
"""
WORDS = (
    "record external steady needs gives entry function var let make call if else while return raise try catch"
    " assert null pick wide div rem"
).split()


def rules():
    found = {}
    for line in GRAMMAR.strip().split("\n"):
        head, tail = line.split(":", 1)
        for part in re.split(r"(?<!\S)\|(?!\S)", tail):
            found.setdefault(head, []).append(tuple("|" if one == "BAR" else one for one in part.split()))
    return found


RULES = rules()
EMPTY = {head for head, tails in RULES.items() if () in tails}


def fits(symbol, token):
    if symbol == "NAME":
        return token not in WORDS and re.fullmatch("[a-z][a-z0-9]{0,7}", token) is not None
    if symbol == "NUMBER":
        return re.fullmatch("0|[1-9][0-9]*", token) is not None and int(token) <= 255
    return symbol == token


def bad_token(tokens):
    """The number of the first bad token, None if the tokens are a text of the grammar."""
    columns = [{("START", ("PROGRAM",), 0, 0)}]
    for at, token in enumerate(tokens):
        complete(columns, len(columns) - 1)
        moved = {
            (head, tail, dot + 1, begin)
            for head, tail, dot, begin in columns[-1]
            if dot < len(tail) and tail[dot] not in RULES and fits(tail[dot], token)
        }
        if not moved:
            return at
        columns.append(moved)
    complete(columns, len(columns) - 1)
    return None if ("START", ("PROGRAM",), 1, 0) in columns[-1] else len(tokens)


def complete(columns, at):
    column = columns[at]
    waiting = list(column)
    while waiting:
        head, tail, dot, begin = waiting.pop()
        new = []
        if dot == len(tail):
            new = [
                (other, parts, spot + 1, start)
                for other, parts, spot, start in list(columns[begin])
                if spot < len(parts) and parts[spot] == head
            ]
        elif tail[dot] in RULES:
            new = [(tail[dot], parts, 0, at) for parts in RULES[tail[dot]]]
            # What can be empty is passed at once, in whatever order items come.
            if tail[dot] in EMPTY:
                new.append((head, tail, dot + 1, begin))
        for item in new:
            if item not in column:
                column.add(item)
                waiting.append(item)
