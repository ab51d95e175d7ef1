package repaint

import (
	"repaint/api"
	"repaint/cells"
	"repaint/views"
)

// Painter shows windows on a terminal.
type Painter struct {
	grid   *cells.Grid // what is to be seen of the view
	view   views.View
	cursor api.Point // where the cursor is to be; any place, on the screen or not
}

// NewPainter makes a painter (P7).
func NewPainter(w int, h int) (*Painter, api.Errno) {
	grid, ok := cells.New(w, h)
	if !ok {
		return nil, api.ErrSize
	}
	return &Painter{grid: grid}, api.OK
}

// Show shows windows (P8).
func (p *Painter) Show(view []api.Window, cursor api.Point) (string, api.Errno) {
	if p == nil {
		return "", api.ErrNil
	}
	next, e := p.view.Next(view)
	if e != api.OK {
		return "", e
	}
	p.view = next
	p.cursor = cursor
	p.paint()
	return "", api.OK
}

// Scroll scrolls a window (P9).
func (p *Painter) Scroll(key int, by int) (string, api.Errno) {
	if p == nil {
		return "", api.ErrNil
	}
	e := p.view.Scroll(key, by)
	if e != api.OK {
		return "", e
	}
	p.paint()
	return "", api.OK
}

// Resize paints for another size (P10).
func (p *Painter) Resize(w int, h int) (string, api.Errno) {
	if p == nil {
		return "", api.ErrNil
	}
	grid, ok := cells.New(w, h)
	if !ok {
		return "", api.ErrSize
	}
	p.grid = grid
	p.paint()
	return "", api.OK
}

// Redraw paints everything anew (P11).
func (p *Painter) Redraw() (string, api.Errno) {
	if p == nil {
		return "", api.ErrNil
	}
	return "", api.OK
}

// Row tells what is to stand in a row (P7).
func (p *Painter) Row(y int) (string, string, api.Errno) {
	if p == nil {
		return "", "", api.ErrNil
	}
	chars, styles, ok := p.grid.Row(y)
	if !ok {
		return "", "", api.ErrArg
	}
	return chars, styles, api.OK
}

// paint brings the grid up to the view.
func (p *Painter) paint() {
	p.grid.Clear(0, p.grid.Wide*p.grid.High)
	p.view.Paint(p.grid)
}
