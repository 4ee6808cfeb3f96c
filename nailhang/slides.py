"""Slides: nails turned, changed and slid along one another."""

from nailhang.cords import LONGEST, is_nail, is_whole, repeated, short_form
from nailhang.errors import NoMove, TooLong


def are_two_nails(one, other):
    return is_nail(one) and is_nail(other) and one != other


def is_move(thing):
    if not isinstance(thing, tuple) or len(thing) == 0:
        return False
    if thing[0] == "turn":
        return len(thing) == 2 and is_nail(thing[1])
    if thing[0] == "change":
        return len(thing) == 3 and are_two_nails(thing[1], thing[2])
    if thing[0] == "slide":
        return len(thing) == 4 and are_two_nails(thing[1], thing[2]) and is_whole(thing[3])
    return False


def check_moves(moves):
    if not isinstance(moves, list):
        raise NoMove("moves stand in a list")
    for move in moves:
        if not is_move(move):
            raise NoMove("a move is a turn, a change or a slide")


def pieces_beside(runs, move):
    if move[0] != "slide" or move[3] == 0:
        return len(runs)
    return sum([2 * abs(turns) if nail == move[1] else 1 for nail, turns in runs])


def turned(runs, turning):
    return [(nail, -turns if nail == turning else turns) for nail, turns in runs]


def changed(runs, one, other):
    names = {one: other, other: one}
    return [(names.get(nail, nail), turns) for nail, turns in runs]


def slid(runs, sliding, other, times):
    cord = []
    for nail, turns in runs:
        if nail == sliding:
            cord.extend(repeated([(nail, 1), (other, times)], turns))
        else:
            cord.append((nail, turns))
    return short_form(cord)


def moved_once(runs, move):
    if pieces_beside(runs, move) > LONGEST:
        raise TooLong("at most 4000 pieces stand side by side")
    # Turned and changed runs are a short form as they were: neighbours stay unlike.
    if move[0] == "turn":
        return turned(runs, move[1])
    if move[0] == "change":
        return changed(runs, move[1], move[2])
    # By 0 the nail does not go along the other one, however many turns there are.
    if move[3] == 0:
        return runs
    return slid(runs, move[1], move[2], move[3])


def moved(cord, moves):
    # All moves are looked at first: what is none is refused ahead of any that gets too long.
    check_moves(moves)
    runs = short_form(cord)
    for move in moves:
        runs = moved_once(runs, move)
    return runs


def back_move(move):
    if move[0] == "slide":
        return ("slide", move[1], move[2], -move[3])
    return move


def back_moves(moves):
    check_moves(moves)
    return [back_move(move) for move in reversed(moves)]
