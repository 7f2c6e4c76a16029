"""A console: it keeps texts of books and worlds by names, and answers commands."""

from methodworlds.answers import answered
from methodworlds.commands import read_command
from methodworlds.errors import BadSyntax, BadValue


class Console:
    """Texts by names, and the commands that were answered."""

    def __init__(self):
        self._texts = {}
        self._commands = []

    def run(self, command):
        """Do what the command says, and return the answer."""
        found = read_command(command)
        if found is None:
            raise BadSyntax(0)
        word, told = found
        answer = self._answer(word, told)
        self._commands.append(command)
        return answer

    def _answer(self, word, told):
        if word == "line":
            name, line = told
            self._texts[name] = self._texts.get(name, "") + line + "\n"
            return "ok"
        # Of what is told behind the other words only names are strings.
        if not all([each in self._texts for each in told if isinstance(each, str)]):
            return "error Unknown"
        if word == "clear":
            self._texts[told[0]] = ""
            return "ok"
        if word == "show":
            return self._texts[told[0]]
        return answered(self._texts, word, told)

    def log(self):
        """The commands that were answered, each with a line feed behind it."""
        return "".join([command + "\n" for command in self._commands])

    @staticmethod
    def replayed(log):
        """A console that has run the commands of a log."""
        if not isinstance(log, str):
            raise BadValue(1)
        lines = log.split("\n")
        commands = lines[:-1]
        for at, command in enumerate(commands):
            if read_command(command) is None:
                raise BadSyntax(at)
        if lines[-1] != "":
            raise BadSyntax(len(commands))
        console = Console()
        for command in commands:
            console.run(command)
        return console
