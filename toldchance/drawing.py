"""What is drawn with raw numbers.

portion: which of so many equal portions, counted from 0, the raw number u falls in.
chosen_place: the place among right weights that the raw number u leads to.
shuffled: the first so many of the row, after as many exchanges of a shuffle.
lots_drawn: so many places among right weights, none of them twice.
"""

from toldchance.streams import RAW_NUMBERS


def portion(u, many):
    return u * many // RAW_NUMBERS


def chosen_place(u, weights):
    # The loop ends within the row, as u is below 2^32 and the weights' sum above 0.
    mark = u * sum(weights)
    place = 0
    reached = weights[0]
    while mark >= RAW_NUMBERS * reached:
        place += 1
        reached += weights[place]
    return place


def shuffled(stream, row, many):
    mixed = list(row)
    for i in range(many):
        j = i + portion(stream.raw_number(), len(mixed) - i)
        held = mixed[i]
        mixed[i] = mixed[j]
        mixed[j] = held
    return mixed[:many]


def lots_drawn(stream, weights, many):
    left = list(weights)
    places = []
    for i in range(many):
        place = chosen_place(stream.raw_number(), left)
        places.append(place)
        left[place] = 0
    return places
