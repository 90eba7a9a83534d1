"""A disk of blocks whose writes land in any sequence, and whose power may be cut at any step."""

from heldpasts.checks import check_block, check_from, check_image, check_index, check_signs, is_number
from heldpasts.errors import InvalidChoice, PowerCut, TooMany

MOST_CHOICES = 1000


class Disk:
    """What is durable, what was written since, and how many steps the power lasts."""

    def __init__(self, image, signs, steps=None):
        check_signs(signs)
        check_image(image, signs)
        if steps is not None:
            check_from(steps, 0)
        self.image = image
        self.signs = signs
        self.pending = ()
        self.steps = steps
        self.out = False

    def read(self, index):
        """The block that was written there last, else the durable one."""
        check_index(index, len(self.image))
        self.need_power()
        for place, block in reversed(self.pending):
            if place == index:
                return block
        return self.image[index]

    def write(self, index, block):
        """Lets a block wait for the next flush."""
        check_index(index, len(self.image))
        check_block(block, self.signs)
        self.take_step()
        self.pending = self.pending + ((index, block),)

    def flush(self):
        """Makes all blocks that wait durable."""
        self.take_step()
        blocks = list(self.image)
        for index, block in self.pending:
            blocks[index] = block
        self.image = tuple(blocks)
        self.pending = ()

    def behind(self, choice):
        """The image that a cut leaves of which each block is the chosen one."""
        offers = self.offers()
        if type(choice) is not tuple or len(choice) != len(offers):
            raise InvalidChoice("a choice is a tuple of one integer for each block")
        for picked, blocks in zip(choice, offers):
            if not is_number(picked, 0, len(blocks) - 1):
                raise InvalidChoice("a choice picks the durable block or one that waits")
        return tuple([blocks[picked] for picked, blocks in zip(choice, offers)])

    def images(self):
        """The ascending list of all images that a cut can leave."""
        offers = self.offers()
        choices = 1
        for blocks in offers:
            choices = choices * len(blocks)
        if choices > MOST_CHOICES:
            raise TooMany(MOST_CHOICES)
        # Each place goes through its unlike blocks in their order, so the images ascend by themselves.
        found = [()]
        for blocks in offers:
            unlike = sorted(set(blocks))
            found = [image + (block,) for image in found for block in unlike]
        return found

    def offers(self):
        """For each index the durable block and, behind it, those that wait there."""
        offers = [[block] for block in self.image]
        for index, block in self.pending:
            offers[index].append(block)
        return offers

    def need_power(self):
        if self.out:
            raise PowerCut("the power is cut")

    def take_step(self):
        self.need_power()
        if self.steps == 0:
            self.out = True
            raise PowerCut("the power is cut at this step")
        if self.steps is not None:
            self.steps = self.steps - 1
