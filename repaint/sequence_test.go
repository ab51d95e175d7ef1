package repaint_test

import (
	"fmt"
	"strings"
	"testing"

	"repaint/api"
	"repaint/repaint"
)

func TestP6Order(t *testing.T) {
	for _, c := range []struct {
		params string
		moved  int
	}{
		{"", 1}, {"0", 1}, {"000", 1}, {"2", 2}, {"02", 2}, {"002", 2}, {"999", 5}, {"2;", 2}, {";2", 1}, {"2;999;0", 2},
		{"0002", 0}, {"2222", 0}, {"2;1000", 0}, {"2 ", 0}, {" 2", 0}, {"2:", 0}, {"<2", 0}, {"2?", 0}, {"?2", 0}, {"??2", 0}, {"-2", 0},
		{";;;;;;;;;;;;", 1}, {";;;;;;;;;;;;;", 0}, {"002;002;002;", 2}, {"002;002;002;2", 0}, {"2;0;0;0;0;00", 2}, {"2;0;0;0;0;000", 0},
	} {
		b := "\x1b[" + c.params + "Cz"
		want := []byte("      ")
		want[c.moved] = 'z'
		at := min(c.moved+1, 5)
		shows(t, fed(t, 6, 1, b), fmt.Sprintf("behind %q", b), string(want), at, 0)
	}
	hidden := func(b string) bool {
		c, _ := fed(t, 4, 2, b).Cursor()
		return !c.Shown
	}
	if !hidden("\x1b[?25;1;1;1;11l") || hidden("\x1b[?25;1;1;1;111l") {
		t.Errorf("the ? counts among the 12 bytes")
	}
}

func TestP6Moves(t *testing.T) {
	for _, c := range []struct {
		b    string
		x, y int
	}{
		{"H", 0, 0}, {"0;0H", 0, 0}, {"1;1H", 0, 0}, {"2H", 0, 1}, {";2H", 1, 0}, {"2;3H", 2, 1}, {"3;4H", 3, 2}, {"5;6H", 5, 4}, {"6;7H", 5, 4}, {"999;999H", 5, 4}, {"2;3;5H", 2, 1},
		{"A", 3, 1}, {"0A", 3, 1}, {"1A", 3, 1}, {"2A", 3, 0}, {"3A", 3, 0}, {"999A", 3, 0},
		{"B", 3, 3}, {"0B", 3, 3}, {"1B", 3, 3}, {"2B", 3, 4}, {"3B", 3, 4}, {"999B", 3, 4},
		{"C", 4, 2}, {"0C", 4, 2}, {"1C", 4, 2}, {"2C", 5, 2}, {"3C", 5, 2}, {"999C", 5, 2},
		{"D", 2, 2}, {"0D", 2, 2}, {"1D", 2, 2}, {"3D", 0, 2}, {"4D", 0, 2}, {"999D", 0, 2},
	} {
		x := fed(t, 6, 5, "\x1b[3;4H\x1b["+c.b)
		blank := "      "
		shows(t, x, fmt.Sprintf("from 3, 2 behind %q", c.b), blank+strings.Repeat("|"+blank, 4), c.x, c.y)
	}
}

func TestP6NotFullBehindMoves(t *testing.T) {
	for _, c := range []struct {
		b, rows string
		x, y    int
	}{
		{"H", "zbcd|efgh", 1, 0}, {"2;4H", "abcd|efgz", 3, 1}, {"A", "abcz|efgh", 3, 0}, {"B", "abcd|efgz", 3, 1}, {"C", "abcd|efgz", 3, 1}, {"D", "abcd|efzh", 3, 1},
		{"m", "efgh|z   ", 1, 1}, {"K", "efg |z   ", 1, 1}, {"1K", "    |z   ", 1, 1}, {"J", "efg |z   ", 1, 1}, {"2J", "    |z   ", 1, 1}, {"X", "efg |z   ", 1, 1}, {"999X", "efg |z   ", 1, 1}, {"?25h", "efgh|z   ", 1, 1}, {"q", "efgh|z   ", 1, 1}, {"?H", "efgh|z   ", 1, 1}, {"1:H", "efgh|z   ", 1, 1},
	} {
		x := fed(t, 4, 2, "abcdefgh\x1b["+c.b+"z")
		shows(t, x, fmt.Sprintf("full, then %q", c.b), c.rows, c.x, c.y)
	}
}

func TestP6Erase(t *testing.T) {
	for _, c := range []struct{ at, b, rows string }{
		{"2;2", "J", "abcd|e   |    "}, {"2;2", "0J", "abcd|e   |    "}, {"2;2", "1J", "    |  gh|ijkl"}, {"2;2", "2J", "    |    |    "}, {"2;2", "3J", "abcd|efgh|ijkl"},
		{"1;1", "J", "    |    |    "}, {"1;1", "1J", " bcd|efgh|ijkl"}, {"3;4", "J", "abcd|efgh|ijk "}, {"3;4", "1J", "    |    |    "}, {"2;2", ";1J", "abcd|e   |    "},
		{"2;2", "K", "abcd|e   |ijkl"}, {"2;2", "0K", "abcd|e   |ijkl"}, {"2;2", "1K", "abcd|  gh|ijkl"}, {"2;2", "2K", "abcd|    |ijkl"}, {"2;2", "3K", "abcd|efgh|ijkl"},
		{"2;1", "K", "abcd|    |ijkl"}, {"2;1", "1K", "abcd| fgh|ijkl"}, {"2;4", "K", "abcd|efg |ijkl"}, {"2;4", "1K", "abcd|    |ijkl"}, {"2;2", "?K", "abcd|efgh|ijkl"}, {"2;2", "?2J", "abcd|efgh|ijkl"},
		{"2;2", "X", "abcd|e gh|ijkl"}, {"2;2", "0X", "abcd|e gh|ijkl"}, {"2;2", "1X", "abcd|e gh|ijkl"}, {"2;2", "2X", "abcd|e  h|ijkl"}, {"2;2", "3X", "abcd|e   |ijkl"}, {"2;2", "4X", "abcd|e   |ijkl"}, {"2;2", "999X", "abcd|e   |ijkl"}, {"3;4", "999X", "abcd|efgh|ijk "}, {"2;2", "?X", "abcd|efgh|ijkl"},
	} {
		x := fed(t, 4, 3, "\x1b[31mabcdefghijkl\x1b["+c.at+"H")
		was, _ := x.Cursor()
		feed(t, x, "\x1b["+c.b)
		showsCursor(t, x, fmt.Sprintf("at %s behind %q", c.at, c.b), c.rows, was)
		for y, row := range strings.Split(c.rows, "|") {
			_, styles, _ := x.Row(y)
			for i := range len(row) {
				if blank := row[i] == ' '; blank != (styles[i] == api.Plain) {
					t.Errorf("at %s behind %q the styles of row %d are %q", c.at, c.b, y, styles)
				}
			}
		}
	}
}

func TestP6EraseOtherNumbers(t *testing.T) {
	x := fed(t, 4, 2, "abcdefgh\x1b[1;2H")
	was := picture(x)
	for n := 3; n <= 999; n++ {
		feed(t, x, fmt.Sprintf("\x1b[%dJ\x1b[%dK", n, n))
		if is := picture(x); is != was {
			t.Fatalf("J and K with %d make %s of %s", n, is, was)
		}
	}
}

// penBehind: the style that the pen has behind the number n, by P6.
func penBehind(style int, n int) int {
	switch {
	case n == 0:
		return 7
	case n == 1:
		return style | 8
	case n == 22:
		return style & 7
	case n >= 30 && n <= 37:
		return style&8 | (n - 30)
	case n == 39:
		return style | 7
	}
	return style
}

// pen: the bytes that make the pen this style.
func pen(style int) string {
	if style >= api.Bold {
		return fmt.Sprintf("\x1b[0;1;%dm", 30+style-api.Bold)
	}
	return fmt.Sprintf("\x1b[0;%dm", 30+style)
}

func TestP6PenNumbers(t *testing.T) {
	for style := range 16 {
		for n := range 1000 {
			x := fed(t, 2, 1, pen(style)+fmt.Sprintf("a\x1b[%dmb", n))
			styled(t, x, fmt.Sprintf("style %d, number %d", style, n), string([]byte{byte(style), byte(penBehind(style, n))}))
		}
	}
}

func TestP6PenLists(t *testing.T) {
	for _, c := range []struct{ b, styles string }{
		{"\x1b[1;32ma\x1b[22mb\x1b[mc", "\x0a\x02\x07\x07"}, {"\x1b[31;0;1ma", "\x0f\x07\x07\x07"}, {"\x1b[1;22;33ma", "\x03\x07\x07\x07"}, {"\x1b[31;ma", "\x07\x07\x07\x07"}, {"\x1b[;31ma", "\x01\x07\x07\x07"}, {"\x1b[30;31;32ma", "\x02\x07\x07\x07"},
		{"\x1b[38;5;1;34ma", "\x0c\x07\x07\x07"}, {"\x1b[31ma\x1b[99mb\x1b[:mc", "\x01\x01\x01\x07"}, {"\x1b[?31ma", "\x07\x07\x07\x07"}, {"\x1b[0031ma", "\x07\x07\x07\x07"}, {"\x1b[031ma", "\x01\x07\x07\x07"},
	} {
		styled(t, fed(t, 4, 2, c.b), fmt.Sprintf("behind %q", c.b), c.styles)
	}
}

func TestP6Shown(t *testing.T) {
	for _, c := range []struct {
		b     string
		shown bool
	}{
		{"\x1b[?25l", false}, {"\x1b[?25h", true}, {"\x1b[?25l\x1b[?25h", true}, {"\x1b[?25l\x1b[?25l", false}, {"\x1b[?1;25l", false}, {"\x1b[?25;1l", false}, {"\x1b[?;25l", false}, {"\x1b[?025l", false},
		{"\x1b[25l", true}, {"\x1b[?24l", true}, {"\x1b[?l", true}, {"\x1b[l", true}, {"\x1b[?0025l", true}, {"\x1b[??25l", true}, {"\x1b[25?l", true}, {"\x1b[?25L", true}, {"\x1b[?25m", true}, {"\x1b[?2;5l", true},
		{"\x1b[?25l\x1b[25h", false}, {"\x1b[?25l\x1b[?h", false}, {"\x1b[?25l\x1b[?26h", false}, {"\x1b[?25l\x1b[?25H", false},
	} {
		x := fed(t, 4, 2, "a"+c.b)
		showsCursor(t, x, fmt.Sprintf("behind %q", c.b), "a   |    ", api.Cursor{X: 1, Shown: c.shown})
	}
}

func TestP6OtherLastBytes(t *testing.T) {
	for i := 64; i <= 126; i++ {
		for _, params := range []string{"", "1", "2;2", "?", "?25", "?1;2", "31", "25"} {
			query := strings.HasPrefix(params, "?")
			if !query && strings.IndexByte("HABCDJKXm", byte(i)) >= 0 || params == "?25" && (i == 'h' || i == 'l') {
				continue
			}
			b := "\x1b[" + params + string([]byte{byte(i)})
			changesNothing(t, "\x1b[1;34mabcdefgh", b)
			changesNothing(t, "\x1b[1;34mabcdefgh\x1b[1;2H\x1b[?25l", b)
		}
	}
}

// changesNothing: what is fed behind the first bytes is not seen, not behind a further letter either.
func changesNothing(t *testing.T, first, b string) {
	t.Helper()
	x, y := fed(t, 4, 2, first), fed(t, 4, 2, first+b)
	was, is := picture(x), picture(y)
	feed(t, x, "z")
	feed(t, y, "z")
	later, now := picture(x), picture(y)
	if is != was || now != later {
		t.Errorf("%q behind %q makes %s of %s; and %s of %s behind z", b, first, is, was, now, later)
	}
}

// noise: the bytes of a long feed that looks like the terminal's own ones, the same at each run.
func noise(seed uint32, length int) string {
	const likely = "\x1b\x1b\x1b\x1b[[[[0123456789;;?HABCDJKXmmhl\r\n\bab"
	var b []byte
	for range length {
		seed = seed*1664525 + 1013904223
		if seed>>28 == 0 {
			b = append(b, byte(seed>>16))
		} else {
			b = append(b, likely[int(seed>>8)%len(likely)])
		}
	}
	return string(b)
}

func TestP1Noise(t *testing.T) {
	for seed := range uint32(60) {
		w, h := 1+int(seed)%7, 1+int(seed)%4
		b := noise(seed, 3000)
		x, y := fed(t, w, h, b[:1500]), fed(t, w, h, "")
		for i := range 1500 {
			feed(t, y, b[i:i+1])
			sound(t, y, w, h)
		}
		resize(t, x, h, w)
		resize(t, y, h, w)
		feed(t, x, b[1500:])
		for i := range 1500 {
			feed(t, y, b[1500+i:1501+i])
			sound(t, y, h, w)
		}
		if p, q := picture(x), picture(y); p != q {
			t.Errorf("noise %d byte by byte: %s, else %s", seed, q, p)
		}
	}
}

// sound: the terminal has this size, its cells are cells, and the cursor is on it.
func sound(t *testing.T, x *repaint.Terminal, w, h int) {
	t.Helper()
	for y := range h {
		chars, styles, e := x.Row(y)
		if e != api.OK || len(chars) != w || len(styles) != w {
			t.Fatalf("Row(%d) = %q, %q, %d", y, chars, styles, e)
		}
		for i := range w {
			if chars[i] < 32 || chars[i] > 126 || styles[i] > 15 {
				t.Fatalf("no cells: %q, %q", chars, styles)
			}
		}
	}
	if c, e := x.Cursor(); e != api.OK || c.X < 0 || c.X >= w || c.Y < 0 || c.Y >= h {
		t.Fatalf("Cursor() = %v, %d", c, e)
	}
}
