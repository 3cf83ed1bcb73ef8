"""Tables: lists of lists of numbers by a by; their determinants, and how they are solved."""

from nextbyrule.numbers import over, taken


def line_taken(by, line):
    return [taken(by, number) for number in line]


def head_line(lines, begin, column):
    for i in range(begin, len(lines)):
        if lines[i][column] != 0:
            return i
    return None


def bring_up(by, lines, at, top):
    # The line that goes down changes its sign, so that the determinant stays what it is.
    if at != top:
        down = lines[top]
        lines[top] = lines[at]
        lines[at] = [taken(by, 0 - number) for number in down]


def freed(by, line, head, column, last):
    # By 0 all numbers are determinants of parts of the table handed in, so that the last head divides without a rest.
    pivot = head[column]
    factor = line[column]
    mixed = [pivot * line[k] - factor * head[k] for k in range(len(line))]
    if by == 0:
        return [number // last for number in mixed]
    share = over(by, 1, last)
    return [taken(by, number * share) for number in mixed]


def clear(by, wide, lines):
    # Changes the lines: at the end line i alone has a number at column heads[i], the same number last for each i,
    # and the lines behind those have none in the first columns, as many as wide.
    heads = []
    last = 1
    for column in range(wide):
        top = len(heads)
        at = head_line(lines, top, column)
        if at is not None:
            bring_up(by, lines, at, top)
            for i in range(len(lines)):
                if i != top:
                    lines[i] = freed(by, lines[i], lines[top], column, last)
            last = lines[top][column]
            heads.append(column)
    return (heads, last)


def determinant(by, table):
    lines = [line_taken(by, line) for line in table]
    size = len(lines)
    cleared = clear(by, size, lines)
    return cleared[1] if len(cleared[0]) == size else 0


def common_divisor(one, other):
    great = abs(one)
    small = abs(other)
    while small > 0:
        left = great % small
        great = small
        small = left
    return great


def lowest(by, bottom, tops):
    # The same fractions with the least bottom from 1 on; by a prime, that is 1.
    if by != 0:
        return (1, [over(by, top, bottom) for top in tops])
    divisor = abs(bottom)
    for top in tops:
        divisor = common_divisor(divisor, top)
    if bottom < 0:
        divisor = 0 - divisor
    return (bottom // divisor, [top // divisor for top in tops])


def free_numbers(by, wide, lines, heads, last):
    column = [k for k in range(wide) if k not in heads][0]
    free = [0] * wide
    free[column] = last
    for i in range(len(heads)):
        free[heads[i]] = taken(by, 0 - lines[i][column])
    return lowest(by, last, free)[1]


def solution(by, wide, table, wished):
    # As solved, but None where there is none.
    lines = [line_taken(by, table[i] + [wished[i]]) for i in range(len(table))]
    cleared = clear(by, wide, lines)
    heads = cleared[0]
    last = cleared[1]
    if any([line[wide] != 0 for line in lines[len(heads):]]):
        return None
    tops = [0] * wide
    for i in range(len(heads)):
        tops[heads[i]] = lines[i][wide]
    low = lowest(by, last, tops)
    if len(heads) == wide:
        return ("one", low[0], low[1])
    return ("many", low[0], low[1], free_numbers(by, wide, lines, heads, last))


def column_of(table, column):
    return [line[column] for line in table]


def paper_against(by, wide, table, wished):
    # Just where there is no solution, there are numbers whose sum with each column is 0 and with the wished ones 1.
    turned = [column_of(table, column) for column in range(wide)]
    turned.append(list(wished))
    goal = [0] * wide
    goal.append(1)
    return solution(by, len(table), turned, goal)[2]


def solved(by, wide, table, wished):
    found = solution(by, wide, table, wished)
    if found is None:
        return ("none", paper_against(by, wide, table, wished))
    return found
