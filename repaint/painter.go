package repaint

import (
	"repaint/api"
	"repaint/brush"
	"repaint/cells"
	"repaint/views"
)

// Painter shows windows on a terminal.
type Painter struct {
	grid   *cells.Grid // what is to be seen of the view, and stands on the terminal behind the last answer
	view   views.View
	cursor api.Point // where the cursor is to be; any place, on the screen or not
}

// NewPainter makes a painter (P7).
func NewPainter(w int, h int) (*Painter, api.Errno) {
	grid, ok := cells.New(w, h)
	if !ok {
		return nil, api.ErrSize
	}
	return &Painter{grid: grid}, api.OK
}

// Show shows windows (P8).
func (p *Painter) Show(view []api.Window, cursor api.Point) (string, api.Errno) {
	if p == nil {
		return "", api.ErrNil
	}
	next, e := p.view.Next(view)
	if e != api.OK {
		return "", e
	}
	before := p.screen()
	p.view = next
	p.cursor = cursor
	return p.change(before), api.OK
}

// Scroll scrolls a window (P9).
func (p *Painter) Scroll(key int, by int) (string, api.Errno) {
	if p == nil {
		return "", api.ErrNil
	}
	before := p.screen()
	e := p.view.Scroll(key, by)
	if e != api.OK {
		return "", e
	}
	return p.change(before), api.OK
}

// Resize paints for another size (P10).
func (p *Painter) Resize(w int, h int) (string, api.Errno) {
	if p == nil {
		return "", api.ErrNil
	}
	grid, ok := cells.New(w, h)
	if !ok {
		return "", api.ErrSize
	}
	p.grid = grid
	p.paint()
	return p.Redraw()
}

// Redraw paints everything anew (P11).
func (p *Painter) Redraw() (string, api.Errno) {
	if p == nil {
		return "", api.ErrNil
	}
	now := p.screen()
	return brush.Whole(now), api.OK
}

// Row tells what is to stand in a row (P7).
func (p *Painter) Row(y int) (string, string, api.Errno) {
	if p == nil {
		return "", "", api.ErrNil
	}
	chars, styles, ok := p.grid.Row(y)
	if !ok {
		return "", "", api.ErrArg
	}
	return chars, styles, api.OK
}

// change brings the cells up to the view, and answers the bytes that do so on a terminal with the screen before.
func (p *Painter) change(before brush.Screen) string {
	p.paint()
	after := p.screen()
	return brush.Change(before, after)
}

// paint lays the view on a new grid: the old one tells what stands on the terminal.
func (p *Painter) paint() {
	p.grid = p.grid.Blank()
	p.view.Paint(p.grid)
}

// screen is what is to stand on the terminal.
func (p *Painter) screen() brush.Screen {
	s := brush.Screen{Cells: p.grid}
	if p.grid.Has(p.cursor.X, p.cursor.Y) {
		s.Cursor = api.Cursor{X: p.cursor.X, Y: p.cursor.Y, Shown: true}
	}
	return s
}
