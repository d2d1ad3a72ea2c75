"""Mappings: characters are replaced by texts over another table, and whether equivalence is kept."""

from canontext.characters import is_text
from canontext.checks import check_table, check_text
from canontext.errors import InvalidImages, InvalidMapping, Mismatch
from canontext.soundness import check_sound, decomposed_form, rules

MAX_IMAGE = 4


class Mapping:
    """Replaces each character of a text by its image; a mapping never changes."""

    def __init__(self, source, target, images):
        check_table(source)
        check_table(target)
        if not are_images(source, target, images):
            raise InvalidImages(images)
        self._source = source
        self._target = target
        self._images = {character: images[character] for character in source.characters}

    @property
    def source(self):
        """The table of the texts that are mapped."""
        return self._source

    @property
    def target(self):
        """The table of their images."""
        return self._target

    def images(self):
        """Return a dict that maps the characters of the source, in order, to their images."""
        return dict(self._images)

    def __call__(self, text):
        check_text(self._source, text)
        return self.image_of(text)

    def image_of(self, text):
        """Return the image of a text over the source, of any length."""
        return "".join([self._images[character] for character in text])

    def then(self, other):
        """Return the mapping that applies this one first and another one then."""
        check_mapping(other)
        if other.source != self._target:
            raise Mismatch(self, other)
        # Only the images that are passed in are held to a length.
        found = Mapping(self._source, other.target, {character: "" for character in self._images})
        found._images = {character: other.image_of(self._images[character]) for character in self._images}
        return found

    def __eq__(self, other):
        return (
            isinstance(other, Mapping)
            and self._source == other._source
            and self._target == other._target
            and self._images == other._images
        )


def are_images(source, target, images):
    """Return whether any value is a dict that maps the characters of a table to short texts over another one."""
    if not isinstance(images, dict) or len(images) != len(source):
        return False
    if not all([character in source for character in images]):
        return False
    return all([is_text(image, target.characters) and len(image) <= MAX_IMAGE for image in images.values()])


def check_mapping(mapping):
    """Raise InvalidMapping for any value that is not a mapping."""
    if not isinstance(mapping, Mapping):
        raise InvalidMapping(mapping)


def find_break(mapping):
    """Return None if equivalent texts have equivalent images, otherwise the first rule whose sides do not."""
    check_mapping(mapping)
    check_sound(mapping.target)
    for left, right in rules(mapping.source):
        if image_form(mapping, left) != image_form(mapping, right):
            return left, right
    return None


def is_break(mapping, value):
    """Return whether any value is a tuple of two equivalent texts whose images are not equivalent."""
    check_mapping(mapping)
    check_sound(mapping.source)
    check_sound(mapping.target)
    if not isinstance(value, tuple) or len(value) != 2:
        return False
    source = mapping.source
    if not all([is_text(text, source.characters) for text in value]):
        return False
    if decomposed_form(source, value[0]) != decomposed_form(source, value[1]):
        return False
    return image_form(mapping, value[0]) != image_form(mapping, value[1])


def image_form(mapping, text):
    """Return the decomposed form of the image of a text."""
    return decomposed_form(mapping.target, mapping.image_of(text))
