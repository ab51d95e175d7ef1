// Package cells: the cells that stand on a screen.
package cells

import "repaint/api"

// Cell is a character and its style.
type Cell struct {
	Char  byte
	Style byte
}

// Grid is the cells of a screen. A cell's place is its number, counted from 0 on through the rows, each from the left.
type Grid struct {
	Wide, High int
	cells      []Cell
}

func blank() Cell {
	return Cell{Char: ' ', Style: api.Plain}
}

func isSize(w int, h int) bool {
	return w >= 1 && w <= api.MaxWide && h >= 1 && h <= api.MaxHigh
}

// New makes a grid of blank cells; false, if that is no size.
func New(w int, h int) (*Grid, bool) {
	if !isSize(w, h) {
		return nil, false
	}
	return blankGrid(w, h), true
}

func blankGrid(w int, h int) *Grid {
	g := &Grid{Wide: w, High: h}
	for i := 0; i < w*h; i++ {
		g.cells = append(g.cells, blank())
	}
	return g
}

// Blank makes a grid of the same size, of blank cells.
func (g *Grid) Blank() *Grid {
	return blankGrid(g.Wide, g.High)
}

// Resized makes a grid of another size: the cells that both have are the same, the others blank; false, if that is no size.
func (g *Grid) Resized(w int, h int) (*Grid, bool) {
	other, ok := New(w, h)
	if !ok {
		return nil, false
	}
	for y := 0; y < g.High; y++ {
		for x := 0; x < g.Wide; x++ {
			c := g.At(x, y)
			other.Put(x, y, c)
		}
	}
	return other, true
}

// Has tells whether there is a column x of a row y.
func (g *Grid) Has(x int, y int) bool {
	return x >= 0 && x < g.Wide && y >= 0 && y < g.High
}

// At tells the cell in column x of row y; one that lies outside counts as blank.
func (g *Grid) At(x int, y int) Cell {
	if !g.Has(x, y) {
		return blank()
	}
	return g.cells[y*g.Wide+x]
}

// Put lays a cell in column x of row y; one that lies outside is let go.
func (g *Grid) Put(x int, y int, c Cell) {
	if !g.Has(x, y) {
		return
	}
	g.cells[y*g.Wide+x] = c
}

// Clear makes the cells blank from the place first on, up to the place end, which stays.
func (g *Grid) Clear(first int, end int) {
	if first < 0 {
		first = 0
	}
	for i := first; i < end && i < len(g.cells); i++ {
		g.cells[i] = blank()
	}
}

// Up moves all rows up by one: the first one is lost, the last one is blank.
func (g *Grid) Up() {
	last := len(g.cells) - g.Wide
	for i := 0; i < last; i++ {
		g.cells[i] = g.cells[i+g.Wide]
	}
	g.Clear(last, len(g.cells))
}

// Row tells a row's characters and its styles; false, if there is no such row.
func (g *Grid) Row(y int) (string, string, bool) {
	if y < 0 || y >= g.High {
		return "", "", false
	}
	var chars, styles []byte
	for _, c := range g.cells[y*g.Wide : (y+1)*g.Wide] {
		chars = append(chars, c.Char)
		styles = append(styles, c.Style)
	}
	return string(chars), string(styles), true
}
