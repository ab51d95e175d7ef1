package repaint_test

import (
	"fmt"
	"math/rand"
	"strings"
	"testing"

	"repaint/api"
	"repaint/repaint"
)

// pair: a painter, and a terminal that is fed what it answers. Each call checks P11 and P12.
type pair struct {
	p      *repaint.Painter
	x      *repaint.Terminal
	w, h   int
	cursor api.Point
}

func newPair(t *testing.T, w, h int) *pair {
	t.Helper()
	a := &pair{p: painter(t, w, h), x: fed(t, w, h, ""), w: w, h: h}
	a.same(t, "a new pair", "")
	return a
}

// wanted: how the cursor is to be; of a hidden one the place does not count.
func (a *pair) wanted() api.Cursor {
	c := a.cursor
	if c.X < 0 || c.Y < 0 || c.X > a.w-1 || c.Y > a.h-1 {
		return api.Cursor{}
	}
	return api.Cursor{X: c.X, Y: c.Y, Shown: true}
}

// same: the terminal, fed these bytes, shows what the painter is to show.
func (a *pair) same(t *testing.T, why, s string) {
	t.Helper()
	feed(t, a.x, s)
	for y := range a.h {
		chars, styles, e := a.p.Row(y)
		c, d, f := a.x.Row(y)
		if c != chars || d != styles || e != api.OK || f != api.OK {
			t.Fatalf("P11: %s, %q: row %d is %q %q (%d), want %q %q (%d)", why, s, y, c, d, f, chars, styles, e)
		}
	}
	c, e := a.x.Cursor()
	if !c.Shown {
		c = api.Cursor{}
	}
	if c != a.wanted() || e != api.OK {
		t.Fatalf("P11: %s, %q: the cursor is %v, %d, want %v", why, s, c, e, a.wanted())
	}
}

// screen: the characters and styles of all cells, the one half behind the other.
func (a *pair) screen() string {
	var chars, styles string
	for y := range a.h {
		c, s, _ := a.p.Row(y)
		chars, styles = chars+c, styles+s
	}
	return chars + styles
}

// few: a Show or Scroll that answered this costs no more than P12 allows, and shows the right thing.
func (a *pair) few(t *testing.T, why, s string, was string, before api.Cursor) {
	t.Helper()
	is, n := a.screen(), 0
	for i := range a.w * a.h {
		if was[i] != is[i] || was[a.w*a.h+i] != is[a.w*a.h+i] {
			n++
		}
	}
	most := 40*n + 60
	if n == 0 && before == a.wanted() {
		most = 0
	}
	if len(s) > most {
		t.Errorf("P12: %s: %d cells are others, the cursor was %v and is %v: %d bytes, %q", why, n, before, a.wanted(), len(s), s)
	}
	a.same(t, why, s)
}

// fewOfAll: the same for a Redraw or Resize.
func (a *pair) fewOfAll(t *testing.T, why, s string, e api.Errno) {
	t.Helper()
	if len(s) > 40*a.w*a.h+60 || e != api.OK {
		t.Errorf("P12: %s of %d by %d: %d bytes, %d", why, a.w, a.h, len(s), e)
	}
	a.same(t, why, s)
}

func (a *pair) show(t *testing.T, cursor api.Point, view ...api.Window) string {
	t.Helper()
	was, before := a.screen(), a.wanted()
	s, e := a.p.Show(view, cursor)
	if e != api.OK {
		t.Fatalf("P8: Show(%v) = %d", view, e)
	}
	a.cursor = cursor
	a.few(t, fmt.Sprintf("Show(%.300v, %v)", view, cursor), s, was, before)
	return s
}

func (a *pair) scroll(t *testing.T, key, by int) string {
	t.Helper()
	was, before := a.screen(), a.wanted()
	s, e := a.p.Scroll(key, by)
	if e != api.OK {
		t.Fatalf("P9: Scroll(%d, %d) = %d", key, by, e)
	}
	a.few(t, fmt.Sprintf("Scroll(%d, %d)", key, by), s, was, before)
	return s
}

// resize: noise is fed to the terminal ahead of its own Resize, and more behind it.
func (a *pair) resize(t *testing.T, w, h int, noise, more string) string {
	t.Helper()
	feed(t, a.x, noise)
	resize(t, a.x, w, h)
	feed(t, a.x, more)
	a.w, a.h = w, h
	s, e := a.p.Resize(w, h)
	a.fewOfAll(t, fmt.Sprintf("Resize(%d, %d) behind %q and %q", w, h, noise, more), s, e)
	return s
}

func (a *pair) redraw(t *testing.T, noise string) string {
	t.Helper()
	feed(t, a.x, noise)
	s, e := a.p.Redraw()
	a.fewOfAll(t, fmt.Sprintf("Redraw behind %q", noise), s, e)
	return s
}

// colours: windows of one row each that fill the screen (at most 12 rows of it), row i in the style first + i.
func colours(w, h, first int, text string) []api.Window {
	var view []api.Window
	for y := range min(h, 12) {
		view = append(view, api.Window{Key: 1 + y, Y: y, W: w, H: 1, Style: (first + y) % 16, Text: text})
	}
	return view
}

func TestP11Sizes(t *testing.T) {
	long := strings.Repeat("abcdefghijklmnopqrstuvwxyz~! ", 14)[:400]
	for _, c := range [][2]int{{1, 1}, {40, 20}, {1, 20}, {40, 1}, {2, 2}, {7, 3}, {39, 12}, {10, 10}} {
		a := newPair(t, c[0], c[1])
		last := api.Point{X: c[0] - 1, Y: c[1] - 1}
		a.show(t, last, api.Window{Key: 1, W: c[0], H: c[1], Style: 2, Text: long})
		a.show(t, last, api.Window{Key: 1, W: c[0], H: c[1], Style: 2, Text: long[1:]})
		a.scroll(t, 1, 1)
		a.scroll(t, 1, 500)
		a.scroll(t, 1, -500)
		for style := range 16 {
			a.show(t, api.Point{X: -1}, colours(c[0], c[1], style, long[style:])...)
			a.redraw(t, "")
			a.show(t, last, api.Window{Key: 1, X: last.X, Y: last.Y, W: 1, H: 1, Style: style, Text: "z"})
			a.show(t, last, api.Window{Key: 1, X: last.X, Y: last.Y, W: 1, H: 1, Style: 15 - style, Text: "y"})
			a.show(t, api.Point{}, api.Window{Key: 1, X: last.X, W: 1, H: 20, Style: style, Text: long})
			a.show(t, api.Point{}, api.Window{Key: 1, Y: last.Y, W: 40, H: 1, Style: style, Text: long})
			a.redraw(t, "")
			a.show(t, last)
		}
	}
}

func TestP11Styles(t *testing.T) {
	a := newPair(t, 2, 1)
	for left := range 16 {
		for right := range 16 {
			view := []api.Window{{Key: 1, W: 1, H: 1, Style: left, Text: "x"}, {Key: 2, X: 1, W: 1, H: 1, Style: right, Text: "x"}}
			a.show(t, api.Point{}, view...)
			if _, s, _ := a.x.Row(0); s != string([]byte{byte(left), byte(right)}) {
				t.Errorf("the styles are %q, want %d, %d", s, left, right)
			}
			a.redraw(t, "\x1b[1;34m")
			view[0].Style, view[1].Style = right, left
			a.show(t, api.Point{}, view...)
			a.show(t, api.Point{X: 1}, view[:1]...)
			a.show(t, api.Point{})
		}
	}
}

func TestP11Text(t *testing.T) {
	a := newPair(t, 6, 3)
	for b := range 256 {
		text := strings.Repeat(string([]byte{byte(b), 27, '[', '2', 'J'}), 5)
		a.show(t, api.Point{X: b % 7, Y: 1}, api.Window{Key: 1, W: 6, H: 3, Style: b % 16, Text: text})
		a.show(t, api.Point{X: b % 7, Y: 1}, api.Window{Key: 1, W: 6, H: 3, Style: b % 16, Text: text[1:]})
	}
}

func TestP11Cursor(t *testing.T) {
	const most, least = 1<<63 - 1, -1 << 63
	a := newPair(t, 4, 2)
	places := []struct {
		x, y  int
		shown bool
	}{
		{0, 0, true}, {3, 1, true}, {3, 0, true}, {0, 1, true}, {2, 1, true}, {4, 0, false}, {0, 2, false}, {-1, 0, false}, {0, -1, false}, {4, 2, false}, {-1, -1, false}, {3, 2, false}, {4, 1, false},
		{most, 0, false}, {0, most, false}, {least, 0, false}, {0, least, false}, {most, most, false}, {least, least, false}, {1 << 32, 0, false}, {0, 1 << 32, false}, {256, 0, false}, {1 << 62, 1 << 62, false},
	}
	dot := api.Window{Key: 1, X: 3, Y: 1, W: 1, H: 1, Style: 12, Text: "."}
	for _, from := range places {
		for _, to := range places {
			for _, views := range [][2][]api.Window{{nil, nil}, {nil, {dot}}, {{dot}, {dot}}, {{dot}, nil}} {
				a.show(t, api.Point{X: from.x, Y: from.y}, views[0]...)
				a.show(t, api.Point{X: to.x, Y: to.y}, views[1]...)
				c, e := a.x.Cursor()
				if c.Shown != to.shown || (to.shown && (c.X != to.x || c.Y != to.y)) || e != api.OK {
					t.Errorf("from %v to %v: %v, %d", from, to, c, e)
				}
			}
		}
	}
}

func TestP11CursorStaysWhereTheSizeChanges(t *testing.T) {
	a := newPair(t, 4, 2)
	a.show(t, api.Point{X: 3, Y: 1}, api.Window{Key: 1, W: 2, H: 1, Text: "abcd"})
	for _, c := range []struct {
		w, h  int
		shown bool
	}{{3, 2, false}, {4, 1, false}, {4, 2, true}, {1, 1, false}, {40, 20, true}, {3, 20, false}, {5, 2, true}} {
		a.resize(t, c.w, c.h, "", "")
		for by := -1; by < 2; by++ {
			a.scroll(t, 1, by)
			if d, _ := a.x.Cursor(); d.Shown != c.shown || (c.shown && (d.X != 3 || d.Y != 1)) {
				t.Errorf("%d by %d: the cursor is %v", c.w, c.h, d)
			}
		}
	}
}

// noises: what else a terminal may have been fed: all beginnings of sequences, pens, places, hidden cursors.
func noises() []string {
	all := []string{
		"", "xyz", "xyz\n\n\n\n", "\x1b", "\x1b\x1b", "\x1b[", "\x1b[1", "\x1b[1;31", "\x1b[1;31;", "\x1b[?", "\x1b[?25", "\x1b[?25;", "\x1b[123456789012", "\x1b[1234567890123", "\x1b[" + strings.Repeat("1;", 5000), "\x1b[:", "\x1b[ ", "\x1b[m\x1b", "\x1b[;\x1b[",
		"\x1b[?25l", "\x1b[?25h", "\x1b[2J", "\x1b[31m", "\x1b[1m", "\x1b[1;30m", "\x1b[22;39m", "\x1b[0m", "\x1b[2J\x1b[?25l\x1b[1;36m\x1b[3;6Hq", "\x1b[99;99H", "\x1b[99;99Hq", "\x1b[99;99Hqq", "\x1b[99;99Hqqq\x1b", "\x1b[99;99Hq\x1b[1;3", "\x1b[2;99Hq", "\x1b[32mabcdefghijklmnopqrstuvwxyz\x1b[?25", "\r", "\b", "\n", "\x18", "\x00\xff\x7f",
	}
	for b := range 256 {
		all = append(all, string([]byte{byte(b)}), string([]byte{27, byte(b)}), string([]byte{27, '[', byte(b)}), string([]byte{27, '[', '1', ';', byte(b)}))
	}
	for seed := range uint32(400) {
		all = append(all, noise(seed, 1+int(seed)))
	}
	return all
}

// later: some calls more, each of which is checked.
func (a *pair) later(t *testing.T) {
	t.Helper()
	a.show(t, a.cursor, api.Window{Key: 1, X: 1, W: 4, H: 3, Style: 12, Text: "abcdefghijklmnop"})
	a.scroll(t, 1, 1)
	a.show(t, api.Point{X: 2, Y: 2}, api.Window{Key: 1, X: 1, W: 4, H: 3, Style: 7, Text: "lkjihgfedcba"})
	a.show(t, api.Point{X: 2, Y: 2}, api.Window{Key: 1, X: 5, Y: 2, W: 1, H: 1, Style: 7, Text: "z"})
	a.show(t, api.Point{X: 9, Y: 9}, api.Window{Key: 1, X: 5, Y: 2, W: 1, H: 1, Style: 3, Text: "z"})
	a.show(t, api.Point{X: 9, Y: 9})
}

func TestP11RedrawBehindAnything(t *testing.T) {
	for _, noise := range noises() {
		a := newPair(t, 6, 3)
		for _, cursor := range []api.Point{{X: 9}, {X: 5, Y: 2}} {
			a.redraw(t, noise)
			a.later(t)
			a.show(t, cursor, api.Window{Key: 1, X: 1, W: 4, H: 3, Style: 12, Text: "abcdefghijkl"})
			a.redraw(t, noise)
			a.redraw(t, noise+noise)
			a.redraw(t, "")
			a.later(t)
			a.show(t, cursor)
		}
	}
}

func TestP11ResizeBehindAnything(t *testing.T) {
	all := noises()
	for i, noise := range all {
		a := newPair(t, 6, 3)
		other := all[(i*7+3)%len(all)]
		for _, c := range [][2]int{{6, 3}, {3, 2}, {1, 1}, {9, 5}, {6, 3}} {
			a.show(t, api.Point{X: i % 8, Y: i % 4}, api.Window{Key: 1, W: 6, H: 3, Style: i % 16, Text: "abcdefghijklmnopqr"})
			a.resize(t, c[0], c[1], noise, other)
			a.later(t)
			a.resize(t, c[0], c[1], other, "")
			a.resize(t, c[0], c[1], "", noise)
			a.later(t)
		}
	}
}

func TestP11RedrawAnswersTheSame(t *testing.T) {
	a := newPair(t, 6, 3)
	a.show(t, api.Point{X: 2, Y: 2}, api.Window{Key: 1, W: 6, H: 3, Style: 9, Text: "abcdefghijklmnopqr"})
	first := a.redraw(t, "")
	if again := a.redraw(t, "\x1b[?25lxyz"); again != first {
		t.Errorf("Redraw() = %q, then %q", first, again)
	}
	if again := a.resize(t, 6, 3, "\x1b[2J", "\x1b["); again != first {
		t.Errorf("Redraw() = %q, then Resize(6, 3) = %q", first, again)
	}
	if s := newPair(t, 1, 1).redraw(t, "x"); s == "" {
		t.Errorf("Redraw of nothing answers nothing")
	}
}

func TestP12OneCellAnywhere(t *testing.T) {
	a := newPair(t, 40, 20)
	long := strings.Repeat("abcdefghij", 40)
	back := []api.Window{{Key: 1, W: 40, H: 10, Style: 12, Text: long}, {Key: 2, Y: 10, W: 40, H: 10, Style: 7, Text: long}}
	for i := range 800 {
		a.show(t, api.Point{X: i % 41, Y: 19}, back...)
		x, y := i%40, i/40
		style, char := back[y/10].Style, string(long[i%400])
		for _, c := range []api.Window{{Style: style, Text: "#"}, {Style: 15 - style, Text: "#"}, {Style: style, Text: char}, {Style: style ^ 8, Text: char}, {Style: style ^ 1, Text: char}} {
			c.Key, c.X, c.Y, c.W, c.H, c.Layer = 3, x, y, 1, 1, 1
			a.show(t, a.cursor, back[0], back[1], c)
			if s := a.show(t, a.cursor, back[0], c, back[1]); s != "" {
				t.Errorf("%d, %d: nothing is another, but %q", x, y, s)
			}
		}
	}
}

// alternate: a text of which every second byte is another one than that of the other text.
func alternate(n int) (string, string) {
	var a, b []byte
	for i := range n {
		c := byte('a' + i%26)
		a = append(a, c)
		if i%2 == 0 {
			c = byte('A' + i%26)
		}
		b = append(b, c)
	}
	return string(a), string(b)
}

func TestP12CellsFarApart(t *testing.T) {
	a := newPair(t, 40, 20)
	for style := range 16 {
		var corners, dots []api.Window
		for i := range 4 {
			corners = append(corners, api.Window{Key: 1 + i, X: 39 * (i % 2), Y: 19 * (i / 2), W: 1, H: 1, Style: (style + i*5) % 16, Text: "#"})
		}
		a.show(t, api.Point{X: 20, Y: 10}, corners...)
		one, other := alternate(400)
		a.show(t, api.Point{X: 40}, api.Window{Key: 1, W: 40, H: 20, Style: style, Text: one})
		a.show(t, api.Point{X: 40}, api.Window{Key: 1, W: 40, H: 20, Style: style, Text: other})
		a.show(t, api.Point{X: 40}, api.Window{Key: 1, W: 40, H: 20, Style: 15 - style, Text: one})
		for i := range 12 {
			dots = append(dots, api.Window{Key: 1 + i, X: 38 - i*3, Y: i, W: 1, H: 1, Style: (style + i) % 16, Text: "x"})
		}
		a.show(t, api.Point{X: 39, Y: 19}, dots...)
	}
}

// stripes: a view in which a window of each second column lies in front, each of another style.
func stripes(first int, text string) []api.Window {
	view := []api.Window{{Key: 99, W: 23, H: 20, Style: 7, Layer: -1, Text: strings.Repeat("abcdefghij", 40)}}
	for i := range 11 {
		view = append(view, api.Window{Key: 1 + i, X: 1 + 2*i, W: 1, H: 20, Style: (first + i) % 16, Text: text})
	}
	return view
}

func TestP12EverySecondCell(t *testing.T) {
	a := newPair(t, 23, 20)
	a.show(t, api.Point{X: 22, Y: 19}, stripes(0, "")[:1]...)
	for first := range 32 {
		a.show(t, api.Point{X: 22, Y: 19}, stripes(first, strings.Repeat(string(rune('a'+first%26)), 20))...)
	}
}

func TestP12NothingIsAnother(t *testing.T) {
	outside := []api.Point{{X: 6}, {Y: 3}, {X: -1}, {Y: -1}, {X: 1 << 62, Y: -1 << 63}, {X: 6, Y: 3}}
	inside := []api.Point{{}, {X: 5, Y: 2}, {X: 5}, {Y: 2}, {X: 3, Y: 1}}
	one := []api.Window{{Key: 1, W: 6, H: 3, Style: 4, Text: "abcdefghijklmnopqr"}}
	for _, same := range [][]api.Window{
		one,
		{{Key: 2, W: 99, H: 99, Style: 4, Text: "abcdef\nghijkl\nmnopqr"}, {Key: 3, X: -4, Y: -4, W: 3, H: 3, Layer: 5, Style: 1, Text: "hidden"}},
		{{Key: 1, W: 6, H: 1, Style: 4, Text: "abcdef"}, {Key: 2, Y: 1, W: 6, H: 2, Style: 4, Text: "ghijklmnopqrstuv"}},
		{{Key: 9, W: 6, H: 3, Style: 1, Text: "xxxxxxxxxxxx"}, {Key: 1, W: 6, H: 3, Layer: 9, Style: 4, Text: "abcdefghijklmnopqr"}},
	} {
		a := newPair(t, 6, 3)
		for _, c := range append(inside, outside...) {
			a.show(t, c, one...)
			for _, view := range [][]api.Window{same, one, one} {
				if s := a.show(t, c, view...); s != "" {
					t.Errorf("the same cells, the cursor at %v again: %q", c, s)
				}
			}
		}
		for _, c := range outside {
			if s := a.show(t, c, same...); s != "" {
				t.Errorf("the cursor from outside to %v: %q", c, s)
			}
		}
	}
	blank := newPair(t, 6, 3)
	if s := blank.show(t, api.Point{}, api.Window{Key: 1, W: 6, H: 3, Style: 7}); s != "" {
		t.Errorf("a window of blank cells: %q", s)
	}
	if s := blank.show(t, api.Point{}, api.Window{Key: 1, W: 6, H: 3, Style: 15}); s == "" {
		t.Errorf("cells of another style: no bytes")
	}
}

func TestP12ScrollOfNothing(t *testing.T) {
	a := newPair(t, 6, 3)
	a.show(t, api.Point{X: 4}, api.Window{Key: 1, X: 1, W: 3, H: 2, Style: 2, Text: "abcde"}, api.Window{Key: 2, X: 3, Y: 1, W: 9, H: 9, Layer: 1, Style: 8, Text: "\t\tz"}, api.Window{Key: 3, X: 50, W: 1, H: 1, Text: "abc"}, api.Window{Key: 4, Y: 2, W: 2, H: 1, Text: "aaaa"})
	for _, c := range [][2]int{{1, 1}, {1, -1}, {1, 0}, {2, 500}, {3, 1}, {3, 1}, {3, -2}, {4, 1}, {4, 1}, {4, -1}} {
		if s := a.scroll(t, c[0], c[1]); s != "" {
			t.Errorf("Scroll(%d, %d) = %q", c[0], c[1], s)
		}
	}
	a.redraw(t, "abc")
	if s := a.scroll(t, 1, 1); s != "" {
		t.Errorf("Scroll(1, 1) behind Redraw = %q", s)
	}
	a.resize(t, 5, 3, "", "")
	if s := a.scroll(t, 1, 1); s != "" {
		t.Errorf("Scroll(1, 1) behind Resize = %q", s)
	}
}

// refusals: calls of which each answers an error and no bytes.
func refusals(t *testing.T, p *repaint.Painter) {
	t.Helper()
	for _, bad := range [][]api.Window{make([]api.Window, 13), {{Key: 0, W: 1, H: 1}}, {{Key: 1, W: 6, H: 3, Style: 1, Text: "new"}, {Key: 1, W: 1, H: 1}}, {{Key: 1, W: 0, H: 1}}, {{Key: 1, W: 1, H: 1, Style: 16}}, {{Key: 1, W: 1, H: 1, Text: strings.Repeat("x", 401)}}} {
		if s, e := p.Show(bad, api.Point{X: 99}); s != "" || e == api.OK {
			t.Errorf("P1: Show(%.99v) = %q, %d", bad, s, e)
		}
	}
	for _, c := range [][2]int{{777, 1}, {0, 0}, {777, 501}, {-1, 1}} {
		if s, e := p.Scroll(c[0], c[1]); s != "" || e != api.ErrKey {
			t.Errorf("P1: Scroll(%v) = %q, %d", c, s, e)
		}
	}
	for _, c := range [][2]int{{0, 1}, {1, 0}, {41, 20}, {40, 21}, {-1, -1}, {1 << 62, 1}} {
		if s, e := p.Resize(c[0], c[1]); s != "" || e != api.ErrSize {
			t.Errorf("P1: Resize(%v) = %q, %d", c, s, e)
		}
	}
}

// act: one call, drawn at random; the terminal is resized and the model told.
func (a *pair) act(t *testing.T, r *rand.Rand, m *model) string {
	t.Helper()
	switch r.Intn(8) {
	case 0, 1:
		m.show(someView(r))
		return a.show(t, api.Point{X: r.Intn(14) - 2, Y: r.Intn(10) - 2}, m.view...)
	case 2:
		m.w, m.h = 1+r.Intn(12), 1+r.Intn(8)
		if r.Intn(9) == 0 {
			m.w, m.h = 40-r.Intn(2), 20-r.Intn(2)
		}
		return a.resize(t, m.w, m.h, "", "")
	case 3:
		return a.redraw(t, "")
	case 4:
		if len(m.view) > 0 {
			i := r.Intn(len(m.view))
			m.view[i].Style = r.Intn(16)
			m.show(m.view)
		}
		return a.show(t, a.cursor, m.view...)
	}
	if len(m.view) == 0 {
		return ""
	}
	w, by := m.view[r.Intn(len(m.view))], r.Intn(13)-6
	m.scroll(w, m.offset[w.Key]+by)
	return a.scroll(t, w.Key, by)
}

// TestP11ManyCalls: a second painter is given the same calls, and others in between that are refused: it answers the same.
func TestP11ManyCalls(t *testing.T) {
	for seed := range int64(300) {
		r, again := rand.New(rand.NewSource(seed)), rand.New(rand.NewSource(seed))
		w, h := 1+r.Intn(10), 1+r.Intn(6)
		again.Intn(10)
		again.Intn(6)
		a, b := newPair(t, w, h), newPair(t, w, h)
		m, n := model{w: w, h: h, offset: map[int]int{}}, model{w: w, h: h, offset: map[int]int{}}
		for call := range 40 {
			s := a.act(t, r, &m)
			refusals(t, b.p)
			if other := b.act(t, again, &n); other != s {
				t.Fatalf("P1, P2: call %d answers %q, and %q behind calls that are refused", call, s, other)
			}
			chars, styles := m.rows()
			paints(t, a.p, fmt.Sprint("call ", call), chars, styles)
			standsOn(t, a.x, fmt.Sprint("call ", call), chars, styles)
			if t.Failed() {
				t.Fatalf("the view is %v, the offsets %v", m.view, m.offset)
			}
		}
	}
}

// standsOn: the terminal has these rows and styles, with | between.
func standsOn(t *testing.T, x *repaint.Terminal, why string, chars, styles string) {
	t.Helper()
	s := strings.Split(styles, "|")
	var want []string
	for y, row := range strings.Split(chars, "|") {
		want = append(want, row+" "+s[y])
	}
	if got, _, _ := strings.Cut(picture(x), ", cursor"); got != strings.Join(want, "|") {
		t.Errorf("P11: %s: the terminal has %q, want %q", why, got, want)
	}
}

func TestP2BytesOfOnePainterAlone(t *testing.T) {
	alone, a, b := newPair(t, 6, 3), newPair(t, 6, 3), newPair(t, 6, 3)
	view := []api.Window{{Key: 1, W: 4, H: 2, Style: 9, Text: "abcdefghijklmnop"}}
	calls := func(p *pair) string {
		return p.show(t, api.Point{X: 2, Y: 1}, view...) + "|" + p.scroll(t, 1, 1) + "|" + p.redraw(t, "") + "|" + p.resize(t, 5, 2, "", "") + "|" + p.show(t, api.Point{X: 9})
	}
	want := calls(alone)
	b.show(t, api.Point{X: 5, Y: 2}, api.Window{Key: 1, W: 6, H: 3, Style: 3, Text: "zyxwvutsrqponmlkji"})
	b.resize(t, 2, 2, "", "")
	if got := calls(a); got != want {
		t.Errorf("the answers are %q, want %q", got, want)
	}
	a.show(t, api.Point{X: 3})
	b.redraw(t, "")
	b.scroll(t, 1, 1)
	a.redraw(t, "")
}
