package prism

import "prism/api"

// command is a command of a script: its letter, and its numbers in their order;
// a number that a command of this letter has not is 0.
type command struct {
	letter        byte
	first, second int
}

// reader reads a text from its beginning on.
type reader struct {
	text string
	read int // bytes
}

// readScript tells the commands of a text, or false if it is no script. All of
// it is read ahead of the first call, as a fault anywhere is one of the whole.
func readScript(text string) ([]command, bool) {
	if len(text) > api.MaxText {
		return nil, false
	}
	var list []command
	r := reader{text: text}
	more := len(text) > 0
	for more {
		c, good := r.readCommand()
		if !good {
			return nil, false
		}
		list = append(list, c)
		more = r.read < len(text)
		if more && !r.skip(';') {
			return nil, false
		}
	}
	return list, true
}

// readCommand reads a command, as far as it is one: what must come behind it is
// not looked at.
func (r *reader) readCommand() (command, bool) {
	if r.read >= len(r.text) {
		return command{}, false
	}
	letter := r.text[r.read]
	r.read++
	switch letter {
	case 'i', 'g', 'l':
		return command{letter: letter}, true
	case 'p', 'f', 'u', 'q':
		return r.readOne(letter)
	case 's', 'r':
		return r.readTwo(letter)
	}
	return command{}, false
}

// readOne reads the number of a command that has one. A Put's alone may be
// below 0.
func (r *reader) readOne(letter byte) (command, bool) {
	below := letter == 'p' && r.skip('-')
	n, good := r.readNumber()
	if !good {
		return command{}, false
	}
	if below {
		n = -n
	}
	return command{letter: letter, first: n}, true
}

// readTwo reads the numbers of a command that has two.
func (r *reader) readTwo(letter byte) (command, bool) {
	first, good := r.readNumber()
	if !good || !r.skip(',') {
		return command{}, false
	}
	second, good := r.readNumber()
	if !good {
		return command{}, false
	}
	return command{letter: letter, first: first, second: second}, true
}

// readNumber reads a number. It takes no more digits than a number may have:
// one more is then what may not stand behind a number.
func (r *reader) readNumber() (int, bool) {
	n := 0
	digits := 0
	for digits < api.MaxDigits && r.read < len(r.text) && isDigit(r.text[r.read]) {
		n = 10*n + int(r.text[r.read]-'0')
		r.read++
		digits++
	}
	return n, digits > 0
}

// skip passes over the byte b, if it comes next, and tells whether it did.
func (r *reader) skip(b byte) bool {
	if r.read >= len(r.text) || r.text[r.read] != b {
		return false
	}
	r.read++
	return true
}

func isDigit(b byte) bool { return b >= '0' && b <= '9' }
