package brush

import (
	"testing"

	"repaint/api"
	"repaint/cells"
)

// drawn: a screen with these rows in one style, but blank where there is a space, and its cursor in row 0, hidden if its column is below 0.
func drawn(t *testing.T, style byte, cursor int, rows ...string) Screen {
	t.Helper()
	g, ok := cells.New(len(rows[0]), len(rows))
	if !ok {
		t.Fatalf("New(%d, %d) is no size", len(rows[0]), len(rows))
	}
	for y, row := range rows {
		for x := range len(row) {
			if row[x] != ' ' {
				g.Put(x, y, cells.Cell{Char: row[x], Style: style})
			}
		}
	}
	s := Screen{Cells: g}
	if cursor >= 0 {
		s.Cursor = api.Cursor{X: cursor, Shown: true}
	}
	return s
}

func TestChange(t *testing.T) {
	empty := drawn(t, 0, 0, "    ", "    ")
	for _, c := range []struct {
		why      string
		from, to Screen
		want     string
	}{
		{"nothing", empty, drawn(t, 0, 0, "    ", "    "), ""},
		{"nothing, hidden", drawn(t, 4, -1, "ab", "cd"), drawn(t, 4, -1, "ab", "cd"), ""},
		{"the cursor", empty, drawn(t, 0, 2, "    ", "    "), "\x1b[1;3H"},
		{"the cursor is hidden", empty, drawn(t, 0, -1, "    ", "    "), "\x1b[?25l"},
		{"the cursor is shown", drawn(t, 0, -1, "    "), drawn(t, 0, 1, "    "), "\x1b[1;2H\x1b[?25h"},
		{"cells side by side cost one move", empty, drawn(t, 7, 0, " abc", "    "), "\x1b[1;2Habc\x1b[1;1H"},
		{"the cursor is there already", empty, drawn(t, 7, 3, " ab ", "    "), "\x1b[1;2Hab"},
		{"a hidden cursor stays where it is", drawn(t, 7, -1, "    "), drawn(t, 7, -1, "a   "), "\x1b[1;1Ha"},
		{"a new row is a move", empty, drawn(t, 7, 0, "   a", "b   "), "\x1b[1;4Ha\x1b[2;1Hb\x1b[1;1H"},
		{"the next row, the same column", empty, drawn(t, 7, 0, "a   ", " b  "), "\x1b[1;1Ha\x1b[2;2Hb\x1b[1;1H"},
		{"a pen for many cells, and Plain behind them", empty, drawn(t, 2, 0, "a  b", "c   "), "\x1b[1;1H\x1b[0;32ma\x1b[1;4Hb\x1b[2;1Hc\x1b[0;37m\x1b[1;1H"},
		{"a bold pen", empty, drawn(t, 15, 0, "a   ", "    "), "\x1b[1;1H\x1b[1;37ma\x1b[0;37m\x1b[1;1H"},
		{"another style alone", drawn(t, 8, 0, "a"), drawn(t, 0, 0, "a"), "\x1b[1;1H\x1b[0;30ma\x1b[0;37m\x1b[1;1H"},
		{"blank again", drawn(t, 1, 0, "ab"), drawn(t, 1, 0, "a "), "\x1b[1;2H \x1b[1;1H"},
	} {
		if got := Change(c.from, c.to); got != c.want {
			t.Errorf("%s: %q, want %q", c.why, got, c.want)
		}
	}
}

func TestWhole(t *testing.T) {
	const wiped = "\x1b[m\x1b[2J\x1b[?25l"
	for _, c := range []struct {
		to   Screen
		want string
	}{
		{drawn(t, 7, -1, "  "), wiped},
		{drawn(t, 7, 0, "  "), wiped + "\x1b[1;1H\x1b[?25h"},
		{drawn(t, 7, -1, " a"), wiped + "\x1b[1;2Ha"},
		{drawn(t, 7, 1, " a"), wiped + "\x1b[1;2Ha\x1b[1;2H\x1b[?25h"},
	} {
		if got := Whole(c.to); got != c.want {
			t.Errorf("%q, want %q", got, c.want)
		}
	}
}
