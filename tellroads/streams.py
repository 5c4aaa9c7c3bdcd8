"""Messages as a stream of lines, read by pieces."""

from tellroads.errors import NoText
from tellroads.messages import GREATEST_NUMBER, has_only, is_message, number_of, text_of, topic_of

DIGITS = "0123456789"
NUMBER_FRONT = "id: "
TOPIC_FRONT = "topic: "
TEXT_FRONT = "data: "
LEFT_OUT_FRONT = ":"


def frame_lines(message):
    lines = [NUMBER_FRONT + str(number_of(message)), TOPIC_FRONT + topic_of(message)]
    lines.extend([TEXT_FRONT + part for part in text_of(message).split("\n")])
    return lines + [""]


def frame_text(message):
    return "".join([line + "\n" for line in frame_lines(message)])


def stream_text(messages):
    return "".join([frame_text(message) for message in messages])


def without_front(line, front):
    if not line.startswith(front):
        raise NoText("a line that does not begin as it must at its place")
    return line[len(front):]


def number_in(text):
    # Asked by length and signs first: Python's own int takes blanks and signs too, and no very long text.
    fits = 1 <= len(text) <= len(str(GREATEST_NUMBER)) and has_only(text, DIGITS)
    if not fits or text.startswith("0"):
        raise NoText("no number as a message's is written")
    return int(text)


def message_in(lines):
    if len(lines) < 3:
        raise NoText("fewer lines than each message has")
    number = number_in(without_front(lines[0], NUMBER_FRONT))
    topic = without_front(lines[1], TOPIC_FRONT)
    text = "\n".join([without_front(line, TEXT_FRONT) for line in lines[2:]])
    message = (number, topic, text)
    if not is_message(message):
        raise NoText("a topic or a text that no message has")
    return message


class Reader:
    def __init__(self):
        # What has begun and not ended: a line, and the lines of a message.
        self.line_begun = ""
        self.lines_begun = []

    def feed(self, piece):
        found = []
        lines = list(self.lines_begun)
        parts = (self.line_begun + piece).split("\n")
        for line in parts[:-1]:
            if line == "" and lines != []:
                found.append(message_in(lines))
                lines = []
            elif line != "" and not line.startswith(LEFT_OUT_FRONT):
                lines.append(line)
        # Kept behind the last refusal, so that a refused piece changes nothing.
        self.line_begun = parts[-1]
        self.lines_begun = lines
        return found

    def is_between(self):
        return self.line_begun == "" and self.lines_begun == []


def read(text):
    messages = Reader().feed(text)
    # A reader leaves out lines that the writing of messages doesn't have, and waits for what is still to come.
    if stream_text(messages) != text:
        raise NoText("not the stream of any messages")
    return messages
