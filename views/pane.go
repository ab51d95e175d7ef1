package views

import (
	"repaint/api"
	"repaint/cells"
)

// pane is a window of a view, its text cut in lines.
type pane struct {
	key        int
	x, y, w, h int
	layer      int
	style      byte
	lines      []string
	offset     int // the number of the line that stands in the pane's first row
}

func newPane(w api.Window) pane {
	lines := cut(w.Text, w.W)
	return pane{key: w.Key, x: w.X, y: w.Y, w: w.W, h: w.H, layer: w.Layer, style: byte(w.Style), lines: lines}
}

// cut cuts a text in lines: at each byte 10, which belongs to none, and where a line would become longer than wide.
func cut(text string, wide int) []string {
	var lines []string
	first := 0
	for i := 0; i < len(text); i++ {
		if text[i] == '\n' {
			lines = append(lines, text[first:i])
			first = i + 1
		} else if i-first == wide {
			lines = append(lines, text[first:i])
			first = i
		}
	}
	return append(lines, text[first:])
}

// scrollTo sets the offset to the nearest one that may be.
func (p *pane) scrollTo(offset int) {
	greatest := len(p.lines) - p.h
	if offset > greatest {
		offset = greatest
	}
	if offset < 0 {
		offset = 0
	}
	p.offset = offset
}

func (p *pane) covers(x int, y int) bool {
	return x >= p.x && x < p.x+p.w && y >= p.y && y < p.y+p.h
}

// cell is what stands in a place of the screen that the pane covers.
func (p *pane) cell(x int, y int) cells.Cell {
	char := p.char(x-p.x, y-p.y+p.offset)
	return cells.Cell{Char: char, Style: p.style}
}

// char is what is to be seen in a column of a line.
func (p *pane) char(column int, number int) byte {
	if number < 0 || number >= len(p.lines) {
		return ' '
	}
	line := p.lines[number]
	if column < 0 || column >= len(line) {
		return ' '
	}
	c := line[column]
	if c < 32 || c > 126 {
		return '?'
	}
	return c
}
