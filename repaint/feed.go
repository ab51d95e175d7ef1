package repaint

import (
	"repaint/api"
	"repaint/cells"
)

// stage is how far a sequence has come.
type stage int

const (
	noSequence   stage = 0
	behindEscape stage = 1
	amongParams  stage = 2
)

const (
	backspace = 8
	newline   = 10
	carriage  = 13
	escape    = 27
)

func (t *Terminal) take(c byte) {
	switch t.stage {
	case noSequence:
		t.takePlain(c)
	case behindEscape:
		t.takeKind(c)
	case amongParams:
		t.takeParam(c)
	}
}

func (t *Terminal) takePlain(c byte) {
	switch {
	case c == escape:
		t.stage = behindEscape
	case c == carriage:
		t.moveTo(0, t.y)
	case c == newline:
		t.rowDown()
		t.full = false
	case c == backspace:
		t.moveTo(t.x-1, t.y)
	case c >= 32 && c <= 126:
		t.write(c)
	}
}

// takeKind takes the byte behind an escape.
func (t *Terminal) takeKind(c byte) {
	switch c {
	case '[':
		t.stage = amongParams
	case escape:
		t.stage = behindEscape
	default:
		t.stage = noSequence
	}
}

func (t *Terminal) takeParam(c byte) {
	if c >= 32 && c <= 63 {
		t.keepParam(c)
		return
	}
	if c >= 64 && c <= 126 {
		t.obey(c)
	}
	t.params = nil
	t.stage = noSequence
	if c == escape {
		t.stage = behindEscape
	}
}

// keepParam keeps one byte more than may be: that tells that there are too many, and a sequence without end takes no more room.
func (t *Terminal) keepParam(c byte) {
	if len(t.params) <= api.MaxParam {
		t.params = append(t.params, c)
	}
}

func (t *Terminal) write(c byte) {
	if t.full {
		t.x = 0
		t.rowDown()
		t.full = false
	}
	cell := cells.Cell{Char: c, Style: t.penStyle()}
	t.grid.Put(t.x, t.y, cell)
	if t.x+1 < t.grid.Wide {
		t.x++
	} else {
		t.full = true
	}
}

func (t *Terminal) rowDown() {
	if t.y+1 < t.grid.High {
		t.y++
	} else {
		t.grid.Up()
	}
}
