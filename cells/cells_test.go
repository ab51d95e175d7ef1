package cells

import (
	"strings"
	"testing"

	"repaint/api"
)

// filled: a grid with these rows, in the style 3.
func filled(t *testing.T, rows ...string) *Grid {
	t.Helper()
	g, ok := New(len(rows[0]), len(rows))
	if !ok {
		t.Fatalf("New(%d, %d) is no size", len(rows[0]), len(rows))
	}
	for y, row := range rows {
		for x := range len(row) {
			g.Put(x, y, Cell{Char: row[x], Style: 3})
		}
	}
	return g
}

// stands: the grid has these rows; a space is blank, and all else has the style of filled.
func stands(t *testing.T, g *Grid, rows ...string) {
	t.Helper()
	if g.Wide != len(rows[0]) || g.High != len(rows) {
		t.Errorf("size %d by %d, want %d by %d", g.Wide, g.High, len(rows[0]), len(rows))
	}
	for y, row := range rows {
		want := []byte(strings.Repeat("\x03", len(row)))
		for x := range len(row) {
			if row[x] == ' ' {
				want[x] = api.Plain
			}
		}
		if chars, styles, ok := g.Row(y); chars != row || styles != string(want) || !ok {
			t.Errorf("row %d is %q %q, %v, want %q %q", y, chars, styles, ok, row, want)
		}
	}
}

func TestSizes(t *testing.T) {
	for _, c := range [][2]int{{0, 1}, {1, 0}, {-1, 1}, {1, -1}, {api.MaxWide + 1, 1}, {1, api.MaxHigh + 1}, {1 << 62, 4}, {-1 << 63, -1 << 63}} {
		if g, ok := New(c[0], c[1]); g != nil || ok {
			t.Errorf("New(%d, %d) is a size", c[0], c[1])
		}
		g := filled(t, "ab")
		if h, ok := g.Resized(c[0], c[1]); h != nil || ok {
			t.Errorf("Resized(%d, %d) is a size", c[0], c[1])
		}
	}
	for _, c := range [][2]int{{1, 1}, {api.MaxWide, api.MaxHigh}, {1, api.MaxHigh}, {api.MaxWide, 1}} {
		if g, ok := New(c[0], c[1]); g == nil || !ok {
			t.Errorf("New(%d, %d) is no size", c[0], c[1])
		}
	}
}

func TestRow(t *testing.T) {
	g := filled(t, "ab", "cd")
	for _, y := range []int{-1, 2, 1 << 62, -1 << 63} {
		if a, b, ok := g.Row(y); a != "" || b != "" || ok {
			t.Errorf("Row(%d) = %q, %q, %v", y, a, b, ok)
		}
	}
}

func TestPutOutside(t *testing.T) {
	g := filled(t, "ab", "cd")
	for _, c := range [][2]int{{-1, 0}, {2, 0}, {0, -1}, {0, 2}, {-1, 1}, {1 << 62, 1 << 62}} {
		g.Put(c[0], c[1], Cell{Char: 'x', Style: 1})
	}
	stands(t, g, "ab", "cd")
}

func TestAt(t *testing.T) {
	g := filled(t, "ab", "cd", "ef")
	for i, want := range "abcdef" {
		if c := g.At(i%2, i/2); c != (Cell{Char: byte(want), Style: 3}) || !g.Has(i%2, i/2) {
			t.Errorf("At(%d, %d) = %v", i%2, i/2, c)
		}
	}
	for _, p := range [][2]int{{-1, 0}, {2, 0}, {0, -1}, {0, 3}, {-1, 1}, {2, 2}, {1 << 62, 1 << 62}, {-1 << 63, 0}, {0, 1<<63 - 1}} {
		if c := g.At(p[0], p[1]); c != blank() || g.Has(p[0], p[1]) {
			t.Errorf("At(%d, %d) = %v", p[0], p[1], c)
		}
	}
}

func TestBlank(t *testing.T) {
	g := filled(t, "abc", "def")
	stands(t, g.Blank(), "   ", "   ")
	stands(t, g, "abc", "def")
}

func TestResized(t *testing.T) {
	for _, c := range []struct{ from, to []string }{
		{[]string{"abc", "def"}, []string{"ab"}},
		{[]string{"abc", "def"}, []string{"abc ", "def ", "    "}},
		{[]string{"abc", "def"}, []string{"a", "d", " "}},
		{[]string{"abc", "def"}, []string{"abc", "def"}},
	} {
		g := filled(t, c.from...)
		h, ok := g.Resized(len(c.to[0]), len(c.to))
		if !ok {
			t.Fatalf("Resized to %q is no size", c.to)
		}
		stands(t, h, c.to...)
		h.Clear(0, 99)
		stands(t, g, c.from...)
	}
}

func TestClear(t *testing.T) {
	for _, c := range []struct {
		first, end int
		rows       []string
	}{
		{0, 0, []string{"ab", "cd"}}, {0, 1, []string{" b", "cd"}}, {1, 3, []string{"a ", " d"}}, {3, 4, []string{"ab", "c "}}, {-5, 1, []string{" b", "cd"}}, {-1, 1, []string{" b", "cd"}}, {-1, 0, []string{"ab", "cd"}}, {2, 1 << 62, []string{"ab", "  "}}, {3, 1, []string{"ab", "cd"}}, {-1 << 63, 1<<63 - 1, []string{"  ", "  "}},
	} {
		g := filled(t, "ab", "cd")
		g.Clear(c.first, c.end)
		stands(t, g, c.rows...)
	}
}

func TestUp(t *testing.T) {
	g := filled(t, "ab", "cd", "ef")
	g.Up()
	stands(t, g, "cd", "ef", "  ")
	g = filled(t, "ab")
	g.Up()
	stands(t, g, "  ")
}
