package repaint

import (
	"repaint/api"
	"repaint/cells"
)

// Terminal is a screen that understands bytes.
type Terminal struct {
	grid   *cells.Grid
	x, y   int
	shown  bool
	full   bool // the next character begins a row: the last column has been written
	colour byte // the pen's
	bold   bool // the pen's
	stage  stage
	params []byte // those of the sequence that has begun, as keepParam keeps them
}

// NewTerminal makes a terminal (P3).
func NewTerminal(w int, h int) (*Terminal, api.Errno) {
	grid, ok := cells.New(w, h)
	if !ok {
		return nil, api.ErrSize
	}
	return &Terminal{grid: grid, shown: true, colour: api.Plain}, api.OK
}

// Feed lets it understand bytes (P4 to P6).
func (t *Terminal) Feed(b string) api.Errno {
	if t == nil {
		return api.ErrNil
	}
	for i := 0; i < len(b); i++ {
		t.take(b[i])
	}
	return api.OK
}

// Resize gives it another size (P3).
func (t *Terminal) Resize(w int, h int) api.Errno {
	if t == nil {
		return api.ErrNil
	}
	grid, ok := t.grid.Resized(w, h)
	if !ok {
		return api.ErrSize
	}
	t.grid = grid
	t.moveTo(t.x, t.y)
	return api.OK
}

// Row tells what stands in a row (P3).
func (t *Terminal) Row(y int) (string, string, api.Errno) {
	if t == nil {
		return "", "", api.ErrNil
	}
	chars, styles, ok := t.grid.Row(y)
	if !ok {
		return "", "", api.ErrArg
	}
	return chars, styles, api.OK
}

// Cursor tells where the cursor is (P3).
func (t *Terminal) Cursor() (api.Cursor, api.Errno) {
	if t == nil {
		return api.Cursor{}, api.ErrNil
	}
	return api.Cursor{X: t.x, Y: t.y, Shown: t.shown}, api.OK
}

// moveTo puts the cursor in this place, or in the nearest one on the screen; behind it the terminal is never full.
func (t *Terminal) moveTo(x int, y int) {
	t.x = within(x, t.grid.Wide)
	t.y = within(y, t.grid.High)
	t.full = false
}

// within is the number nearest to i from 0 to count - 1.
func within(i int, count int) int {
	if i >= count {
		i = count - 1
	}
	if i < 0 {
		i = 0
	}
	return i
}
