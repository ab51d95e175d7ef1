// Package repaint: a painter of windows on a terminal, and the terminal: see DOC.md.
package repaint

import "repaint/api"

// Painter shows windows on a terminal.
type Painter struct{}

// NewPainter makes a painter (P7).
func NewPainter(w int, h int) (*Painter, api.Errno) { return nil, api.OK }

// Show shows windows (P8).
func (p *Painter) Show(view []api.Window, cursor api.Point) (string, api.Errno) {
	return "", api.OK
}

// Scroll scrolls a window (P9).
func (p *Painter) Scroll(key int, by int) (string, api.Errno) { return "", api.OK }

// Resize paints for another size (P10).
func (p *Painter) Resize(w int, h int) (string, api.Errno) { return "", api.OK }

// Redraw paints everything anew (P11).
func (p *Painter) Redraw() (string, api.Errno) { return "", api.OK }

// Row tells what is to stand in a row (P7).
func (p *Painter) Row(y int) (string, string, api.Errno) { return "", "", api.OK }
