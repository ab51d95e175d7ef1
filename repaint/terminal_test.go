package repaint_test

import (
	"fmt"
	"strings"
	"testing"

	"repaint/api"
	"repaint/repaint"
)

// fed: a new terminal that was fed this.
func fed(t *testing.T, w, h int, b string) *repaint.Terminal {
	t.Helper()
	x, e := repaint.NewTerminal(w, h)
	if x == nil || e != api.OK {
		t.Fatalf("P3: NewTerminal(%d, %d): %d", w, h, e)
	}
	feed(t, x, b)
	return x
}

func feed(t *testing.T, x *repaint.Terminal, b string) {
	t.Helper()
	if e := x.Feed(b); e != api.OK {
		t.Errorf("P4: Feed(%q) = %d", b, e)
	}
}

func resize(t *testing.T, x *repaint.Terminal, w, h int) {
	t.Helper()
	if e := x.Resize(w, h); e != api.OK {
		t.Errorf("P3: Resize(%d, %d) = %d", w, h, e)
	}
}

// picture: all that can be asked of a terminal; a row's styles stand behind its characters, as the digits of 16.
func picture(x *repaint.Terminal) string {
	var rows []string
	for y := 0; ; y++ {
		chars, styles, e := x.Row(y)
		if e != api.OK {
			break
		}
		row := chars + " "
		for i := range len(styles) {
			row += fmt.Sprintf("%x", styles[i])
		}
		rows = append(rows, row)
	}
	c, e := x.Cursor()
	return fmt.Sprintf("%s, cursor %v %d", strings.Join(rows, "|"), c, e)
}

// shows: the terminal has these rows, with | between, and its cursor in this place, shown.
func shows(t *testing.T, x *repaint.Terminal, why string, rows string, cx, cy int) {
	t.Helper()
	showsCursor(t, x, why, rows, api.Cursor{X: cx, Y: cy, Shown: true})
}

func showsCursor(t *testing.T, x *repaint.Terminal, why string, rows string, c api.Cursor) {
	t.Helper()
	want := strings.Split(rows, "|")
	for y, row := range want {
		if s, _, e := x.Row(y); s != row || e != api.OK {
			t.Errorf("%s: row %d is %q, %d, want %q", why, y, s, e, row)
		}
	}
	if _, _, e := x.Row(len(want)); e != api.ErrArg {
		t.Errorf("%s: Row(%d) = %d, want no such row", why, len(want), e)
	}
	if d, e := x.Cursor(); d != c || e != api.OK {
		t.Errorf("%s: the cursor is %v, %d, want %v", why, d, e, c)
	}
}

// styled: row 0 has these styles.
func styled(t *testing.T, x *repaint.Terminal, why string, styles string) {
	t.Helper()
	if _, s, e := x.Row(0); s != styles || e != api.OK {
		t.Errorf("%s: the styles are %q, %d, want %q", why, s, e, styles)
	}
}

func TestP1Nil(t *testing.T) {
	var x *repaint.Terminal
	for _, b := range []string{"", "a", "\x1b["} {
		if e := x.Feed(b); e != api.ErrNil {
			t.Errorf("Feed(%q) = %d", b, e)
		}
	}
	for _, n := range []int{-1, 0, 1, 1 << 62} {
		if e := x.Resize(n, n); e != api.ErrNil {
			t.Errorf("Resize(%d, %d) = %d", n, n, e)
		}
		if a, b, e := x.Row(n); a != "" || b != "" || e != api.ErrNil {
			t.Errorf("Row(%d) = %q, %q, %d", n, a, b, e)
		}
	}
	if c, e := x.Cursor(); c != (api.Cursor{}) || e != api.ErrNil {
		t.Errorf("Cursor() = %v, %d", c, e)
	}
}

func TestP1ErrorsChangeNothing(t *testing.T) {
	x := fed(t, 4, 2, "\x1b[?25l\x1b[31mabcd\x1b[")
	was := picture(x)
	for _, c := range [][2]int{{0, 1}, {1, 0}, {41, 1}, {1, 21}, {-4, -2}, {1 << 62, 1 << 62}, {-1 << 63, 1}} {
		if e := x.Resize(c[0], c[1]); e != api.ErrSize {
			t.Errorf("Resize(%d, %d) = %d", c[0], c[1], e)
		}
	}
	for _, y := range []int{-1, 2, 20, 1<<63 - 1, -1 << 63} {
		if a, b, e := x.Row(y); a != "" || b != "" || e != api.ErrArg {
			t.Errorf("Row(%d) = %q, %q, %d", y, a, b, e)
		}
	}
	if is := picture(x); is != was {
		t.Errorf("errors made %s of %s", is, was)
	}
	feed(t, x, "mx")
	showsCursor(t, x, "still in the sequence, and still full", "abcd|x   ", api.Cursor{X: 1, Y: 1})
}

func TestP1LongStrings(t *testing.T) {
	many := 1 << 20
	x := fed(t, 4, 2, "\x1b["+strings.Repeat("1", many)+"C"+"a")
	shows(t, x, "many digits", "a   |    ", 1, 0)
	x = fed(t, 4, 2, strings.Repeat("\x1b[", many)+"Ca")
	shows(t, x, "many beginnings", " a  |    ", 2, 0)
	x = fed(t, 4, 2, strings.Repeat("abcdefgh", many/8))
	shows(t, x, "many letters", "abcd|efgh", 3, 1)
	x = fed(t, 4, 2, "x"+strings.Repeat("\n", many))
	shows(t, x, "many rows", "    |    ", 1, 1)
}

func TestP2NothingInCommon(t *testing.T) {
	x := fed(t, 4, 2, "\x1b[31mab\x1b[1")
	y := fed(t, 4, 2, "cdef")
	chars, styles, _ := x.Row(0)
	feed(t, y, "gh\x1b[?25l\x1b[2")
	feed(t, x, "Cz")
	feed(t, y, "Dz")
	shows(t, x, "the one", "ab z|    ", 3, 0)
	styled(t, x, "the one", "\x01\x01\x07\x01")
	showsCursor(t, y, "the other", "cdef|zh  ", api.Cursor{X: 1, Y: 1})
	styled(t, y, "the other", "\x07\x07\x07\x07")
	resize(t, y, 2, 1)
	shows(t, x, "the other resized", "ab z|    ", 3, 0)
	if chars != "ab  " || styles != "\x01\x01\x07\x07" {
		t.Errorf("an earlier answer is %q, %q now", chars, styles)
	}
}

func TestP3New(t *testing.T) {
	for _, c := range [][2]int{{0, 1}, {1, 0}, {0, 0}, {41, 1}, {1, 21}, {-1, 5}, {5, -1}, {5, 1 << 62}, {-1 << 63, 1}, {1 << 32, 1 << 32}} {
		if x, e := repaint.NewTerminal(c[0], c[1]); x != nil || e != api.ErrSize {
			t.Errorf("NewTerminal(%d, %d): %d", c[0], c[1], e)
		}
	}
	for _, c := range [][2]int{{1, 1}, {40, 20}, {1, 20}, {40, 1}, {7, 3}} {
		x := fed(t, c[0], c[1], "")
		blank := strings.Repeat(" ", c[0])
		for y := range c[1] {
			a, b, e := x.Row(y)
			if a != blank || b != strings.Repeat("\x07", c[0]) || e != api.OK {
				t.Errorf("a new terminal of %v: Row(%d) = %q, %q, %d", c, y, a, b, e)
			}
		}
		rows := blank + strings.Repeat("|"+blank, c[1]-1)
		shows(t, x, "a new terminal", rows, 0, 0)
	}
	x := fed(t, 2, 1, "[")
	shows(t, x, "neither full nor in a sequence", "[ ", 1, 0)
	styled(t, x, "the pen is plain", "\x07\x07")
}

func TestP3Resize(t *testing.T) {
	x := fed(t, 4, 3, "\x1b[31mabcdefgh\x1b[2;3H")
	resize(t, x, 2, 1)
	shows(t, x, "smaller", "ab", 1, 0)
	resize(t, x, 4, 3)
	shows(t, x, "great again", "ab  |    |    ", 1, 0)
	styled(t, x, "great again", "\x01\x01\x07\x07")
	for _, c := range []struct{ w, h, x, y int }{{4, 3, 3, 2}, {3, 3, 2, 2}, {4, 2, 3, 1}, {1, 1, 0, 0}, {40, 20, 3, 2}, {40, 1, 3, 0}, {1, 20, 0, 2}} {
		x = fed(t, 4, 3, "\x1b[9;9H")
		resize(t, x, c.w, c.h)
		want := api.Cursor{X: c.x, Y: c.y, Shown: true}
		if d, e := x.Cursor(); d != want || e != api.OK {
			t.Errorf("the cursor of %d by %d is %v, %d, want %v", c.w, c.h, d, e, want)
		}
	}
}

func TestP3ResizeNotFull(t *testing.T) {
	for _, c := range []struct {
		w, h int
		rows string
		x, y int
	}{{4, 2, "abcx|    ", 3, 0}, {5, 2, "abcx |     ", 4, 0}, {3, 2, "abx|   ", 2, 0}, {4, 1, "abcx", 3, 0}} {
		x := fed(t, 4, 2, "abcd")
		resize(t, x, c.w, c.h)
		feed(t, x, "x")
		shows(t, x, fmt.Sprintf("full, then %d by %d", c.w, c.h), c.rows, c.x, c.y)
	}
}

func TestP3ResizeKeeps(t *testing.T) {
	for _, c := range [][2]string{{"\x1b", "[2Ca"}, {"\x1b[", "2Ca"}, {"\x1b[2", "Ca"}} {
		x := fed(t, 4, 2, "\x1b[1;32m\x1b[?25l"+c[0])
		resize(t, x, 3, 1)
		feed(t, x, c[1])
		showsCursor(t, x, "resized within a sequence", "  a", api.Cursor{X: 2})
		styled(t, x, "resized with a pen", "\x07\x07\x0a")
	}
	x := fed(t, 4, 2, "\x1b[1;2;3;4;5;6;7;")
	resize(t, x, 4, 2)
	feed(t, x, "Ca")
	shows(t, x, "too many bytes in two pieces", "a   |    ", 1, 0)
}

func TestP4Examples(t *testing.T) {
	for _, c := range []struct {
		fed, rows string
		x, y      int
	}{
		{"abcd", "abcd|    ", 3, 0}, {"abcde", "abcd|e   ", 1, 1}, {"abcdefgh", "abcd|efgh", 3, 1}, {"abcdefghi", "efgh|i   ", 1, 1},
		{"abcd\bx", "abxd|    ", 3, 0}, {"ab\nc\rd", "ab  |d c ", 1, 1},
		{"abcd\rx", "xbcd|    ", 1, 0}, {"abcd\nx", "abcd|   x", 3, 1}, {"abcd\nxy", "   x|y   ", 1, 1}, {"abcdefgh\ni", "efgh|   i", 3, 1},
		{"\b\ba", "a   |    ", 1, 0}, {"ab\b\b\b\bc", "cb  |    ", 1, 0}, {"a\n\n\nb", "    | b  ", 2, 1}, {"ab\r\r\ncd", "ab  |cd  ", 2, 1},
		{"\x1b[2;3Hx\x1b[Hy", "y   |  x ", 1, 0}, {"abcd\x1b[Ke", "abc |e   ", 1, 1}, {"abcd\x1b[2DX\x1b[9Xe", "aXe |    ", 3, 0}, {"\x1b[1:2mq\x1bcq", "qq  |    ", 2, 0},
	} {
		shows(t, fed(t, 4, 2, c.fed), fmt.Sprintf("behind %q", c.fed), c.rows, c.x, c.y)
	}
	shows(t, fed(t, 1, 1, "abc"), "1 by 1", "c", 0, 0)
	shows(t, fed(t, 1, 2, "a\bb"), "1 by 2, not full behind 8 in column 0", "b| ", 0, 0)
	shows(t, fed(t, 1, 2, "a\rb"), "1 by 2, not full behind 13 in column 0", "b| ", 0, 0)
	shows(t, fed(t, 1, 2, "a\nb"), "1 by 2, not full behind 10", "a|b", 0, 1)
	shows(t, fed(t, 1, 2, "abc"), "1 by 2, up", "b|c", 0, 1)
}

func TestP4EveryByte(t *testing.T) {
	for i := range 256 {
		if i == 8 || i == 10 || i == 13 || i == 27 {
			continue
		}
		c := string([]byte{byte(i)})
		seen := ""
		if i >= 32 && i <= 126 {
			seen = c
		}
		x := fed(t, 4, 2, "a"+c+"b")
		if s, _, _ := x.Row(0); strings.TrimRight(s, " ") != "a"+seen+"b" {
			t.Errorf("a, %d, b: row 0 is %q", i, s)
		}
		x = fed(t, 4, 2, "abcd"+c+"e")
		if s, _, _ := x.Row(1); strings.TrimRight(s, " ") != seen+"e" {
			t.Errorf("full, then %d, e: row 1 is %q", i, s)
		}
		if s, _, _ := x.Row(0); s != "abcd" {
			t.Errorf("full, then %d, e: row 0 is %q", i, s)
		}
	}
}

func TestP4StylesMoveUp(t *testing.T) {
	x := fed(t, 2, 2, "\x1b[31mab\x1b[32mcd\x1b[33m\n")
	shows(t, x, "up by one", "cd|  ", 1, 1)
	styled(t, x, "up by one", "\x02\x02")
	if _, s, _ := x.Row(1); s != "\x07\x07" {
		t.Errorf("the last row is not blank: %q", s)
	}
}

func TestP5BehindEscape(t *testing.T) {
	for i := range 256 {
		x := fed(t, 4, 2, "abcd\x1b"+string([]byte{byte(i)})+"z")
		why := fmt.Sprintf("27, %d, z", i)
		if i == '[' || i == 27 {
			shows(t, x, why, "abcd|    ", 3, 0)
		} else {
			shows(t, x, why, "abcd|z   ", 1, 1)
		}
	}
	shows(t, fed(t, 4, 2, "\x1b\x1b\x1b[2Cz"), "three times 27", "  z |    ", 3, 0)
}

func TestP5AmongParams(t *testing.T) {
	for i := range 256 {
		x := fed(t, 9, 1, "\x1b[3"+string([]byte{byte(i)})+"Cz")
		why := fmt.Sprintf("27 [ 3, %d, C z", i)
		switch {
		case i >= '0' && i <= '9':
			shows(t, x, why, "        z", 8, 0)
		case i == ';':
			shows(t, x, why, "   z     ", 4, 0)
		case i >= 32 && i <= 63 || i == 27:
			shows(t, x, why, "z        ", 1, 0)
		case i == 'C':
			shows(t, x, why, "   Cz    ", 5, 0)
		default:
			shows(t, x, why, "Cz       ", 2, 0)
		}
	}
	x := fed(t, 4, 2, "\x1b[?25l\x1b[1\x1b[31mz")
	showsCursor(t, x, "27 drops a sequence", "z   |    ", api.Cursor{X: 1})
	styled(t, x, "27 drops a sequence", "\x01\x07\x07\x07")
}

func TestP5CutAnywhere(t *testing.T) {
	for _, b := range []string{
		"ab\x1b[1;2Hc\x1b[?25l\x1b[31md\x1b[Ke", "\x1b[1;32mabcdefghi\x1b[2D\x1b[X\x1b[?25h\r\n\x1b[1Jx", "abcd\x1b[123;456;789;Hx\x1b[123;456;789;0Hy", "\x1b[1\x1b[\x1b\x1b[2C\x1b[3\x7fz\x1bcq\x1b[?1;25lp",
	} {
		whole := picture(fed(t, 4, 2, b))
		for i := range len(b) + 1 {
			x := fed(t, 4, 2, b[:i])
			feed(t, x, "")
			feed(t, x, b[i:])
			if is := picture(x); is != whole {
				t.Errorf("%q cut at %d: %s, else %s", b, i, is, whole)
			}
		}
		x := fed(t, 4, 2, "")
		for i := range len(b) {
			feed(t, x, b[i:i+1])
		}
		if is := picture(x); is != whole {
			t.Errorf("%q byte by byte: %s, else %s", b, is, whole)
		}
	}
}
