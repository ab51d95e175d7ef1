package repaint

import (
	"repaint/api"
	"repaint/params"
)

// cursorMode is the number by which the cursor is shown or hidden.
const cursorMode = 25

// obey does what the sequence says that ends with this byte (P6).
func (t *Terminal) obey(last byte) {
	p, ok := params.Read(t.params)
	if !ok {
		return
	}
	if p.Query {
		t.obeyQuery(p, last)
		return
	}
	n := p.Number(0)
	m := p.Number(1)
	count := atLeastOne(n)
	switch last {
	case 'H':
		column := atLeastOne(m)
		t.moveTo(column-1, count-1)
	case 'A':
		t.moveTo(t.x, t.y-count)
	case 'B':
		t.moveTo(t.x, t.y+count)
	case 'C':
		t.moveTo(t.x+count, t.y)
	case 'D':
		t.moveTo(t.x-count, t.y)
	case 'J':
		t.erase(n, 0, t.grid.Wide*t.grid.High)
	case 'K':
		first := t.y * t.grid.Wide
		t.erase(n, first, first+t.grid.Wide)
	case 'X':
		t.eraseCells(count)
	case 'm':
		t.setPen(p.Numbers)
	}
}

func (t *Terminal) obeyQuery(p params.Params, last byte) {
	if !p.Has(cursorMode) {
		return
	}
	switch last {
	case 'h':
		t.shown = true
	case 'l':
		t.shown = false
	}
}

func atLeastOne(n int) int {
	if n < 1 {
		return 1
	}
	return n
}

// erase makes cells blank between the places first and end: those from the cursor on (0), those up to it (1), or all (2).
func (t *Terminal) erase(n int, first int, end int) {
	here := t.y*t.grid.Wide + t.x
	switch n {
	case 0:
		t.grid.Clear(here, end)
	case 1:
		t.grid.Clear(first, here+1)
	case 2:
		t.grid.Clear(first, end)
	}
}

func (t *Terminal) eraseCells(count int) {
	rest := t.grid.Wide - t.x
	if count > rest {
		count = rest
	}
	here := t.y*t.grid.Wide + t.x
	t.grid.Clear(here, here+count)
}

func (t *Terminal) setPen(numbers []int) {
	for _, n := range numbers {
		switch {
		case n == 0:
			t.colour = api.Plain
			t.bold = false
		case n == 1:
			t.bold = true
		case n == 22:
			t.bold = false
		case n >= 30 && n <= 37:
			t.colour = byte(n - 30)
		case n == 39:
			t.colour = 7
		}
	}
}

func (t *Terminal) penStyle() byte {
	if t.bold {
		return t.colour + api.Bold
	}
	return t.colour
}
