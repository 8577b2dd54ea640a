"""Sets of steps as integers: the bit with the number of a step tells whether the step is there."""


def mask_of(steps):
    """The mask of these steps."""
    mask = 0
    for step in steps:
        mask = mask | 1 << step
    return mask


def steps_of(mask):
    """The ascending list of the steps of a mask."""
    return [step for step in range(mask.bit_length()) if mask & 1 << step]


def input_masks(web):
    """The list of the masks of the inputs of each step."""
    return [mask_of(inputs) for _, inputs in web]


def taker_masks(web):
    """The list of the masks of the takers of each step."""
    masks = [0] * len(web)
    for taker, (_, inputs) in enumerate(web):
        for giver in inputs:
            masks[giver] = masks[giver] | 1 << taker
    return masks
