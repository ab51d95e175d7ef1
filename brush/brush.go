// Package brush: the bytes that bring a terminal to what is to stand on it.
package brush

import (
	"strconv"

	"repaint/api"
	"repaint/cells"
)

const (
	begin      = "\x1b["
	hideCursor = "\x1b[?25l"
	showCursor = "\x1b[?25h"

	// wipe brings a terminal in any state to a Plain pen, blank cells and a hidden cursor. It begins with an escape, since that drops a sequence that has begun.
	wipe = "\x1b[m\x1b[2J" + hideCursor
)

// Screen is what stands on a terminal. The place of a hidden cursor tells nothing, and is 0, 0.
type Screen struct {
	Cells  *cells.Grid
	Cursor api.Cursor
}

// brush gathers bytes, and knows how the terminal is behind them.
type brush struct {
	bytes []byte
	x, y  int // where the next character would stand; outside the screen, if that is not known or the terminal is full
	pen   byte
}

// Change answers the bytes that turn one screen into another one of the same size; none, if both are the same. They begin and end with a Plain pen, so that nobody has to keep it from one change to the next.
func Change(from Screen, to Screen) string {
	b := brush{x: -1, y: -1, pen: api.Plain}
	b.paint(from.Cells, to.Cells)
	if len(b.bytes) > 0 || from.Cursor != to.Cursor {
		b.setCursor(from.Cursor, to.Cursor)
	}
	return string(b.bytes)
}

// Whole answers the bytes that bring a terminal in any state to a screen of its size.
func Whole(to Screen) string {
	wiped := Screen{Cells: to.Cells.Blank()}
	rest := Change(wiped, to)
	return wipe + rest
}

// paint writes the cells that are to be others.
func (b *brush) paint(from *cells.Grid, to *cells.Grid) {
	for y := 0; y < to.High; y++ {
		for x := 0; x < to.Wide; x++ {
			was := from.At(x, y)
			is := to.At(x, y)
			if is != was {
				b.moveTo(x, y)
				b.setPen(is.Style)
				b.write(is.Char)
			}
		}
	}
	b.setPen(api.Plain)
}

func (b *brush) moveTo(x int, y int) {
	if x == b.x && y == b.y {
		return
	}
	row := strconv.Itoa(y + 1)
	column := strconv.Itoa(x + 1)
	b.add(begin + row + ";" + column + "H")
	b.x = x
	b.y = y
}

func (b *brush) setPen(style byte) {
	if style == b.pen {
		return
	}
	weight := "0"
	if style >= api.Bold {
		weight = "1"
	}
	colour := strconv.Itoa(30 + int(style%api.Bold))
	b.add(begin + weight + ";" + colour + "m")
	b.pen = style
}

// write leaves x behind the last column where the terminal is full, so that a move always comes ahead of the next character.
func (b *brush) write(c byte) {
	b.bytes = append(b.bytes, c)
	b.x++
}

func (b *brush) setCursor(from api.Cursor, to api.Cursor) {
	if to.Shown {
		b.moveTo(to.X, to.Y)
	}
	if to.Shown && !from.Shown {
		b.add(showCursor)
	}
	if from.Shown && !to.Shown {
		b.add(hideCursor)
	}
}

func (b *brush) add(text string) {
	b.bytes = append(b.bytes, text...)
}
