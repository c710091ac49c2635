package wire

import "garrison/api"

// commandSize: how many bytes a command has.
const commandSize = 5

// Command is what a player asks of a unit; nothing but the player is set in the one by which it gives up.
type Command struct {
	Player, Unit, What, X, Y int
}

// GivesUp: the command is the one by which its player gives up.
func (c Command) GivesUp() bool {
	return c == Command{Player: c.Player}
}

// ReadTurns reads the bytes of turns; false, if they are not, or are of too many.
func ReadTurns(text string) ([][]Command, bool) {
	var turns [][]Command
	for len(text) > 0 {
		size := int(text[0]) * commandSize
		text = text[1:]
		if size > api.MaxTurn*commandSize || size > len(text) || len(turns) == api.MaxTurns {
			return nil, false
		}
		turns = append(turns, readCommands(text[:size]))
		text = text[size:]
	}
	return turns, true
}

// ReadCommand reads the bytes of one command; false, if they are not.
func ReadCommand(text string) (Command, bool) {
	if len(text) != commandSize {
		return Command{}, false
	}
	return readCommand(text), true
}

// WriteTurn tells the bytes of the turn that has these commands.
func WriteTurn(commands ...Command) string {
	var w Writer
	w.One(len(commands))
	for _, c := range commands {
		w.One(c.Player, c.Unit, c.What, c.X, c.Y)
	}
	return w.Text()
}

func readCommands(text string) []Command {
	var list []Command
	for at := 0; at < len(text); at += commandSize {
		list = append(list, readCommand(text[at:at+commandSize]))
	}
	return list
}

func readCommand(text string) Command {
	return Command{
		Player: int(text[0]),
		Unit:   int(text[1]),
		What:   int(text[2]),
		X:      int(text[3]),
		Y:      int(text[4]),
	}
}
