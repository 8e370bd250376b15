package works

import (
	"strconv"
	"strings"

	"blazon/api"
	"blazon/book"
)

// maxScript is how many lines Play carries out.
const maxScript = 100

// player carries out a script.
type player struct {
	setup api.Setup
	disk  *book.Disk
	works *Works // nil behind an Open that had an error
}

// Play opens works on a new disk, carries out lines, and returns the answer to each.
func Play(c api.Setup, lines []string) ([]string, api.Errno) {
	p := &player{setup: c, disk: book.NewDisk()}
	if err := p.open(); err != api.OK {
		return nil, err
	}
	if len(lines) > maxScript {
		return nil, api.ErrArg
	}
	var answers []string
	for _, line := range lines {
		answer, err := p.play(line)
		if err != api.OK {
			answer = "error " + strconv.Itoa(int(err))
		}
		answers = append(answers, answer)
	}
	return answers, api.OK
}

func (p *player) open() api.Errno {
	var err api.Errno
	p.works, err = Open(p.setup, p.disk)
	return err
}

// play carries out one line: those that concern the disk are for the player, all others for the works.
func (p *player) play(line string) (string, api.Errno) {
	name, word, _ := strings.Cut(line, " ")
	n, ok := readNumber(word)
	switch {
	case ok && name == "arm":
		p.disk.Arm(n)
		return done(api.OK)
	case ok && name == "crash":
		p.disk.Crash(n)
		return done(p.open())
	case p.works == nil:
		return "", api.ErrDown
	}
	return p.works.Do(line)
}
