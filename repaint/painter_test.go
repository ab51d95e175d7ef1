package repaint_test

import (
	"fmt"
	"math/rand"
	"reflect"
	"slices"
	"strings"
	"testing"

	"repaint/api"
	"repaint/repaint"
)

func painter(t *testing.T, w, h int) *repaint.Painter {
	t.Helper()
	p, e := repaint.NewPainter(w, h)
	if p == nil || e != api.OK {
		t.Fatalf("P7: NewPainter(%d, %d): %d", w, h, e)
	}
	return p
}

func show(t *testing.T, p *repaint.Painter, view ...api.Window) {
	t.Helper()
	if _, e := p.Show(view, api.Point{}); e != api.OK {
		t.Errorf("P8: Show(%v) = %d", view, e)
	}
}

func scroll(t *testing.T, p *repaint.Painter, key, by int) {
	t.Helper()
	if _, e := p.Scroll(key, by); e != api.OK {
		t.Errorf("P9: Scroll(%d, %d) = %d", key, by, e)
	}
}

func resizePainter(t *testing.T, p *repaint.Painter, w, h int) {
	t.Helper()
	if _, e := p.Resize(w, h); e != api.OK {
		t.Errorf("P10: Resize(%d, %d) = %d", w, h, e)
	}
}

// rows: all rows of a painter with | between, and their styles, as the digits of 16.
func rows(p *repaint.Painter) (string, string) {
	var chars, styles []string
	for y := 0; ; y++ {
		c, s, e := p.Row(y)
		if e != api.OK {
			break
		}
		hex := ""
		for i := range len(s) {
			hex += fmt.Sprintf("%x", s[i])
		}
		chars = append(chars, c)
		styles = append(styles, hex)
	}
	return strings.Join(chars, "|"), strings.Join(styles, "|")
}

// paints: the painter has these rows, and these styles, if any are given.
func paints(t *testing.T, p *repaint.Painter, why string, chars string, styles string) {
	t.Helper()
	c, s := rows(p)
	if c != chars {
		t.Errorf("%s: the rows are %q, want %q", why, c, chars)
	}
	if styles != "" && s != styles {
		t.Errorf("%s: the styles are %s, want %s", why, s, styles)
	}
}

func TestP1NilPainter(t *testing.T) {
	var p *repaint.Painter
	for _, n := range []int{-1, 0, 1, 501, 1 << 62, -1 << 63} {
		if s, e := p.Show(make([]api.Window, n&31), api.Point{X: n, Y: n}); s != "" || e != api.ErrNil {
			t.Errorf("Show of %d windows = %q, %d", n&31, s, e)
		}
		if s, e := p.Scroll(n, n); s != "" || e != api.ErrNil {
			t.Errorf("Scroll(%d, %d) = %q, %d", n, n, s, e)
		}
		if s, e := p.Resize(n, n); s != "" || e != api.ErrNil {
			t.Errorf("Resize(%d, %d) = %q, %d", n, n, s, e)
		}
		if a, b, e := p.Row(n); a != "" || b != "" || e != api.ErrNil {
			t.Errorf("Row(%d) = %q, %q, %d", n, a, b, e)
		}
	}
	if s, e := p.Redraw(); s != "" || e != api.ErrNil {
		t.Errorf("Redraw() = %q, %d", s, e)
	}
}

func TestP1PainterErrorsChangeNothing(t *testing.T) {
	p := painter(t, 4, 2)
	view := []api.Window{{Key: 1, W: 2, H: 1, Text: "abcdef"}, {Key: 2, X: 2, W: 1, H: 2, Style: 3, Text: "xyz"}}
	show(t, p, view...)
	scroll(t, p, 1, 1)
	scroll(t, p, 2, 1)
	for _, bad := range [][]api.Window{make([]api.Window, 13), {{Key: 1, W: 4, H: 2, Text: "new"}, {Key: 1, W: 1, H: 1}}, {{Key: 1, W: 2, H: 1, Text: "q"}, {Key: 3, W: 1, H: 1, Style: 16}}} {
		if s, e := p.Show(bad, api.Point{X: 1, Y: 1}); s != "" || e == api.OK {
			t.Errorf("Show(%v) = %q, %d", bad, s, e)
		}
	}
	for _, c := range []struct {
		key, by int
		e       api.Errno
	}{{3, 1, api.ErrKey}, {0, 1, api.ErrKey}, {-1, 501, api.ErrKey}, {1 << 62, 1 << 62, api.ErrKey}, {1, 501, api.ErrArg}, {2, -501, api.ErrArg}, {2, -1 << 63, api.ErrArg}, {1, 1<<63 - 1, api.ErrArg}} {
		if s, e := p.Scroll(c.key, c.by); s != "" || e != c.e {
			t.Errorf("Scroll(%d, %d) = %q, %d, want %d", c.key, c.by, s, e, c.e)
		}
	}
	for _, c := range [][2]int{{0, 1}, {1, 0}, {41, 1}, {1, 21}, {-4, -2}, {1 << 62, 1 << 62}, {-1 << 63, 1}} {
		if s, e := p.Resize(c[0], c[1]); s != "" || e != api.ErrSize {
			t.Errorf("Resize(%d, %d) = %q, %d", c[0], c[1], s, e)
		}
	}
	for _, y := range []int{-1, 2, 20, 1<<63 - 1, -1 << 63} {
		if a, b, e := p.Row(y); a != "" || b != "" || e != api.ErrArg {
			t.Errorf("Row(%d) = %q, %q, %d", y, a, b, e)
		}
	}
	paints(t, p, "errors", "cdy |  z ", "0037|7737")
	show(t, p, view...)
	paints(t, p, "offsets are kept behind errors", "cdy |  z ", "0037|7737")
}

func TestP2PainterKeepsNoList(t *testing.T) {
	room := []api.Window{{Key: 1, W: 2, H: 1, Text: "abcd"}, {Key: 2, X: 2, W: 1, H: 1, Style: 4, Text: "x"}, {Key: 3, W: 4, H: 1, Layer: 9, Text: "room"}, {Key: 4, Text: "more"}}
	was := slices.Clone(room)
	p := painter(t, 4, 1)
	show(t, p, room[:2]...)
	scroll(t, p, 1, 1)
	resizePainter(t, p, 4, 2)
	show(t, p, room[:2]...)
	if !reflect.DeepEqual(room, was) {
		t.Errorf("the list is %v now", room)
	}
	paints(t, p, "two of the windows", "cdx |    ", "0047|7777")
	clear(room)
	paints(t, p, "the list was written over", "cdx |    ", "0047|7777")
	scroll(t, p, 1, -1)
	paints(t, p, "and the window was scrolled", "abx |    ", "0047|7777")
	resizePainter(t, p, 3, 1)
	paints(t, p, "and the painter was resized", "abx", "004")
}

func TestP2PaintersHaveNothingInCommon(t *testing.T) {
	view := []api.Window{{Key: 1, W: 2, H: 1, Text: "abcdef"}}
	p, q, x := painter(t, 3, 1), painter(t, 3, 1), fed(t, 3, 1, "")
	show(t, p, view...)
	show(t, q, view...)
	scroll(t, p, 1, 1)
	chars, styles, _ := p.Row(0)
	paints(t, q, "the other was scrolled", "ab ", "007")
	show(t, q)
	paints(t, p, "the other shows nothing", "cd ", "007")
	show(t, q, view...)
	paints(t, q, "the offset is not that of the other", "ab ", "007")
	resizePainter(t, q, 1, 2)
	paints(t, p, "the other was resized", "cd ", "007")
	feed(t, x, "xyz\x1b[31m")
	scroll(t, p, 1, 1)
	shows(t, x, "a terminal of its own", "xyz", 2, 0)
	if chars != "cd " || styles != "\x00\x00\x07" {
		t.Errorf("an earlier answer is %q, %q now", chars, styles)
	}
}

func TestP7New(t *testing.T) {
	for _, c := range [][2]int{{0, 1}, {1, 0}, {0, 0}, {41, 1}, {1, 21}, {-1, 5}, {5, -1}, {5, 1 << 62}, {-1 << 63, 1}, {1 << 32, 1 << 32}} {
		if p, e := repaint.NewPainter(c[0], c[1]); p != nil || e != api.ErrSize {
			t.Errorf("NewPainter(%d, %d): %d", c[0], c[1], e)
		}
	}
	for _, c := range [][2]int{{1, 1}, {40, 20}, {1, 20}, {40, 1}, {7, 3}} {
		p := painter(t, c[0], c[1])
		chars, styles := strings.Repeat(" ", c[0]), strings.Repeat("7", c[0])
		paints(t, p, fmt.Sprintf("a new painter of %v", c), chars+strings.Repeat("|"+chars, c[1]-1), styles+strings.Repeat("|"+styles, c[1]-1))
		if s, e := p.Scroll(1, 0); s != "" || e != api.ErrKey {
			t.Errorf("a new painter has a window: %q, %d", s, e)
		}
	}
}

func TestP7Examples(t *testing.T) {
	p := painter(t, 6, 3)
	show(t, p, api.Window{Key: 1, X: 1, W: 3, H: 2, Style: 2, Text: "abcde"}, api.Window{Key: 2, X: 3, Y: 1, W: 9, H: 9, Layer: 1, Style: 8, Text: "\t\tz"})
	for range 2 {
		paints(t, p, "the example", " abc  | de??z|      ", "722277|722888|777888")
		if s, e := p.Scroll(1, 1); s != "" || e != api.OK {
			t.Errorf("Scroll(1, 1) = %q, %d", s, e)
		}
	}
	if s, e := p.Scroll(3, 1); s != "" || e != api.ErrKey {
		t.Errorf("Scroll(3, 1) = %q, %d", s, e)
	}
}

func TestP7PartlyOutside(t *testing.T) {
	text := "abc\ndef\nghi"
	for _, c := range []struct {
		x, y          int
		chars, styles string
	}{
		{0, 0, "abc |def ", "1117|1117"}, {1, 0, " abc| def", "7111|7111"}, {2, 1, "    |  ab", "7777|7711"}, {3, 1, "    |   a", "7777|7771"},
		{-1, 0, "bc  |ef  ", "1177|1177"}, {-2, -1, "f   |i   ", "1777|1777"}, {1, -2, " ghi|    ", "7111|7777"},
		{-3, 0, "    |    ", "7777|7777"}, {4, 0, "    |    ", "7777|7777"}, {0, -3, "    |    ", "7777|7777"}, {0, 2, "    |    ", "7777|7777"},
		{-99, -99, "    |    ", "7777|7777"}, {99, 99, "    |    ", "7777|7777"}, {-99, 0, "    |    ", "7777|7777"}, {0, 99, "    |    ", "7777|7777"},
	} {
		p := painter(t, 4, 2)
		show(t, p, api.Window{Key: 1, X: c.x, Y: c.y, W: 3, H: 3, Style: 1, Text: text})
		paints(t, p, fmt.Sprintf("at %d, %d", c.x, c.y), c.chars, c.styles)
	}
	p := painter(t, 2, 2)
	show(t, p, api.Window{Key: 1, X: -98, Y: -98, W: 99, H: 99, Style: 15})
	paints(t, p, "the last cell of a great window", "  |  ", "f7|77")
	show(t, p, api.Window{Key: 1, X: -99, Y: -99, W: 99, H: 99, Style: 15})
	paints(t, p, "a great window that ends ahead of the screen", "  |  ", "77|77")
}

func TestP7Layers(t *testing.T) {
	for _, c := range []struct {
		layers [3]int
		want   string
	}{
		{[3]int{0, 0, 0}, "abccc"}, {[3]int{9, 9, 9}, "abccc"}, {[3]int{1, 0, 0}, "aaacc"}, {[3]int{0, 1, 0}, "abbbc"}, {[3]int{2, 1, 0}, "aaabc"}, {[3]int{1, 0, 1}, "aaccc"}, {[3]int{0, -1, -1}, "aaacc"},
		{[3]int{-9, -8, -9}, "abbbc"}, {[3]int{-1, -1, -2}, "abbbc"}, {[3]int{1, 1, 0}, "abbbc"}, {[3]int{9, -9, 0}, "aaacc"}, {[3]int{9, -9, -9}, "aaacc"},
	} {
		p := painter(t, 5, 1)
		var view []api.Window
		for i, layer := range c.layers {
			view = append(view, api.Window{Key: 3 - i, X: i, W: 3, H: 1, Layer: layer, Style: 10 + i, Text: strings.Repeat(string("abc"[i]), 3)})
		}
		show(t, p, view...)
		paints(t, p, fmt.Sprint("layers ", c.layers), c.want, c.want)
	}
	p := painter(t, 3, 1)
	show(t, p, api.Window{Key: 1, W: 3, H: 1, Style: 1, Text: "abc"}, api.Window{Key: 2, X: 1, W: 1, H: 1, Style: 2})
	paints(t, p, "an empty window hides what is behind it", "a c", "121")
}

func TestP7Lines(t *testing.T) {
	for _, c := range []struct {
		w    int
		text string
		want string
	}{
		{4, "", "    |    |    "}, {4, "\n", "    |    |    "}, {4, "abcd", "abcd|    |    "}, {4, "abcde", "abcd|e   |    "}, {4, "abcd\n", "abcd|    |    "}, {4, "abcd\ne", "abcd|e   |    "}, {4, "abcd\n\ne", "abcd|    |e   "},
		{2, "abcde", "ab  |cd  |e   "}, {2, "abcdefgh", "ab  |cd  |ef  "}, {1, "a\nbc", "a   |b   |c   "}, {1, "\n\nb", "    |    |b   "}, {3, "a\nb\nc\nd", "a   |b   |c   "}, {99, "abcdef\ng", "abcd|g   |    "}, {3, " a \n  b", " a  |  b |    "},
		{3, "ab\r\nc", "ab? |c   |    "},
	} {
		p := painter(t, 4, 3)
		show(t, p, api.Window{Key: 1, W: c.w, H: 3, Text: c.text})
		paints(t, p, fmt.Sprintf("%q with W %d", c.text, c.w), c.want, "")
	}
}

func TestP7EveryByte(t *testing.T) {
	for i := range 256 {
		c := string([]byte{byte(i)})
		seen := "?"
		if i >= 32 && i <= 126 {
			seen = c
		}
		want := "a" + seen + "b|   "
		if i == 10 {
			want = "a  |b  "
		}
		p := painter(t, 3, 2)
		show(t, p, api.Window{Key: 1, W: 3, H: 2, Style: 9, Text: "a" + c + "b"})
		paints(t, p, fmt.Sprintf("a, %d, b", i), want, "999|999")
	}
}

// flaws: what can be wrong with a window, in the order of P8.
func flaws() [][]func(*api.Window) {
	return [][]func(*api.Window){
		{func(w *api.Window) { w.Key = 0 }, func(w *api.Window) { w.Key = 1000 }, func(w *api.Window) { w.Key = -1 }, func(w *api.Window) { w.Key = -1 << 63 }, func(w *api.Window) { w.Key = 1 }},
		{
			func(w *api.Window) { w.X = 100 }, func(w *api.Window) { w.X = -100 }, func(w *api.Window) { w.Y = 100 }, func(w *api.Window) { w.Y = -100 }, func(w *api.Window) { w.X = 1<<63 - 1 },
			func(w *api.Window) { w.W = 0 }, func(w *api.Window) { w.W = 100 }, func(w *api.Window) { w.H = 0 }, func(w *api.Window) { w.H = 100 }, func(w *api.Window) { w.W = -1 }, func(w *api.Window) { w.H = -1 << 63 },
		},
		{func(w *api.Window) { w.Layer = 10 }, func(w *api.Window) { w.Layer = -10 }, func(w *api.Window) { w.Style = -1 }, func(w *api.Window) { w.Style = 16 }, func(w *api.Window) { w.Style = 1 << 32 }},
		{func(w *api.Window) { w.Text = strings.Repeat("x", 401) }, func(w *api.Window) { w.Text = strings.Repeat("\n", 1<<20) }},
	}
}

func TestP8Errors(t *testing.T) {
	p := painter(t, 4, 1)
	kept := api.Window{Key: 1, W: 4, H: 1, Text: "kept"}
	show(t, p, kept)
	refused := func(view []api.Window, want api.Errno) {
		t.Helper()
		if s, e := p.Show(view, api.Point{X: 1}); s != "" || e != want {
			t.Errorf("Show(%.99v) = %q, %d, want %d", view, s, e, want)
		}
		paints(t, p, "behind an error", "kept", "0000")
	}
	fine := api.Window{Key: 2, W: 1, H: 1}
	for i, one := range flaws() {
		for _, flaw := range one {
			bad := fine
			flaw(&bad)
			refused([]api.Window{kept, bad}, api.ErrKey+api.Errno(i))
			if bad.Key != kept.Key {
				refused([]api.Window{bad, kept}, api.ErrKey+api.Errno(i))
			}
			for j, other := range flaws() {
				for _, worse := range other {
					both := bad
					worse(&both)
					refused([]api.Window{kept, both}, api.ErrKey+api.Errno(min(i, j)))
					behind := fine
					behind.Key = 3
					worse(&behind)
					refused([]api.Window{kept, bad, behind}, api.ErrKey+api.Errno(i))
				}
			}
			many := []api.Window{bad}
			for len(many) < 13 {
				many = append(many, api.Window{Key: len(many) + 2, W: 1, H: 1})
			}
			refused(many, api.ErrMany)
		}
	}
	refused(make([]api.Window, 12), api.ErrKey)
	refused(make([]api.Window, 13), api.ErrMany)
	refused(make([]api.Window, 1<<16), api.ErrMany)
}

func TestP8Limits(t *testing.T) {
	p := painter(t, 3, 1)
	for _, w := range []api.Window{
		{Key: 999, X: 99, Y: 99, W: 99, H: 99, Layer: 9, Style: 15, Text: strings.Repeat("x", 400)},
		{Key: 1, X: -99, Y: -99, W: 1, H: 1, Layer: -9, Style: 0},
	} {
		show(t, p, w)
		paints(t, p, "nothing on the screen", "   ", "777")
	}
	var twelve []api.Window
	for i := range 12 {
		twelve = append(twelve, api.Window{Key: 999 - i, X: i - 10, W: 2, H: 1, Style: i, Text: string("abcdefghijkl"[i]) + "z"})
	}
	show(t, p, twelve...)
	paints(t, p, "twelve windows", "klz", "abb")
	show(t, p, api.Window{Key: 1, W: 3, H: 1, Text: strings.Repeat("abc", 133) + "d"})
	scroll(t, p, 1, 500)
	paints(t, p, "400 bytes", "d  ", "000")
	for _, c := range []api.Point{{X: -1}, {Y: 1}, {X: 1 << 62, Y: -1 << 63}, {X: 2}} {
		if _, e := p.Show(nil, c); e != api.OK {
			t.Errorf("Show with the cursor %v = %d", c, e)
		}
	}
	paints(t, p, "no windows", "   ", "777")
}

func TestP8Offsets(t *testing.T) {
	six := api.Window{Key: 5, W: 2, H: 1, Text: "abcdef"}
	for _, c := range []struct {
		next api.Window
		want string
	}{
		{six, "ef  |    "},
		{api.Window{Key: 6, W: 2, H: 1, Text: "abcdef"}, "ab  |    "},
		{api.Window{Key: 5, W: 2, H: 1, Text: "xyz"}, "z   |    "},
		{api.Window{Key: 5, W: 2, H: 1, Text: "x"}, "x   |    "},
		{api.Window{Key: 5, W: 2, H: 1, Text: ""}, "    |    "},
		{api.Window{Key: 5, W: 2, H: 1, Text: "12345678"}, "56  |    "},
		{api.Window{Key: 5, W: 2, H: 1, Text: "1\n2\n"}, "    |    "},
		{api.Window{Key: 5, W: 3, H: 1, Text: "abcdef"}, "def |    "},
		{api.Window{Key: 5, W: 1, H: 2, Text: "abcdef"}, "c   |d   "},
		{api.Window{Key: 5, W: 2, H: 2, Text: "abcdef"}, "cd  |ef  "},
		{api.Window{Key: 5, W: 2, H: 3, Text: "abcdef"}, "ab  |cd  "},
		{api.Window{Key: 5, W: 2, H: 99, Text: "abcdef"}, "ab  |cd  "},
		{api.Window{Key: 5, X: 2, Y: 1, W: 2, H: 1, Layer: 3, Style: 3, Text: "abcdef"}, "    |  ef"},
	} {
		p := painter(t, 4, 2)
		show(t, p, six)
		scroll(t, p, 5, 9)
		paints(t, p, "scrolled", "ef  |    ", "")
		show(t, p, c.next)
		paints(t, p, fmt.Sprintf("then %v", c.next), c.want, "")
	}
}

func TestP8OffsetsAreThoseOfTheLastView(t *testing.T) {
	six := api.Window{Key: 5, W: 2, H: 1, Text: "abcdef"}
	other := api.Window{Key: 7, X: 2, W: 1, H: 1, Text: "xyz"}
	p := painter(t, 4, 1)
	show(t, p, six, other)
	scroll(t, p, 5, 2)
	scroll(t, p, 7, 1)
	show(t, p, other, six)
	paints(t, p, "in another order", "efy ", "")
	six.Text = "xyz"
	show(t, p, six, other)
	paints(t, p, "cut down to the new text", "z y ", "")
	six.Text = "abcdef"
	show(t, p, six, other)
	paints(t, p, "what was cut down stays so", "cdy ", "")
	show(t, p, other)
	paints(t, p, "without one", "  y ", "")
	show(t, p, six, other)
	paints(t, p, "one is forgotten", "aby ", "")
	show(t, p)
	show(t, p, six, other)
	paints(t, p, "both are forgotten", "abx ", "")
}

func TestP9Scroll(t *testing.T) {
	p := painter(t, 4, 2)
	show(t, p, api.Window{Key: 4, X: 2, W: 1, H: 2, Text: "xyz"}, api.Window{Key: 5, W: 2, H: 1, Text: "abcdef"}, api.Window{Key: 999, X: 3, Y: 0, W: 1, H: 2, Text: "12"})
	for _, c := range []struct {
		key, by int
		want    string
	}{
		{5, 0, "abx1|  y2"}, {5, -1, "abx1|  y2"}, {5, 1, "cdx1|  y2"}, {5, 0, "cdx1|  y2"}, {5, 1, "efx1|  y2"}, {5, 1, "efx1|  y2"}, {5, -1, "cdx1|  y2"}, {5, -500, "abx1|  y2"}, {5, 500, "efx1|  y2"}, {5, -2, "abx1|  y2"}, {5, 2, "efx1|  y2"},
		{4, 1, "efy1|  z2"}, {4, 1, "efy1|  z2"}, {4, -9, "efx1|  y2"}, {999, 1, "efx1|  y2"}, {999, -1, "efx1|  y2"},
	} {
		scroll(t, p, c.key, c.by)
		paints(t, p, fmt.Sprintf("Scroll(%d, %d)", c.key, c.by), c.want, "")
	}
}

func TestP9ScrollsWhatIsNotSeen(t *testing.T) {
	p := painter(t, 2, 1)
	hidden := api.Window{Key: 1, W: 2, H: 1, Text: "abcdef"}
	show(t, p, hidden, api.Window{Key: 2, W: 2, H: 1, Text: "xy"})
	scroll(t, p, 1, 1)
	paints(t, p, "hidden", "xy", "")
	show(t, p, hidden)
	paints(t, p, "hidden no more", "cd", "")
	hidden.X = 50
	show(t, p, hidden)
	scroll(t, p, 1, 1)
	hidden.X = 0
	show(t, p, hidden)
	paints(t, p, "back on the screen", "ef", "")
	show(t, p, api.Window{Key: 2, W: 1, H: 1, Text: strings.Repeat("\n", 399) + "z"})
	scroll(t, p, 2, 398)
	paints(t, p, "ahead of the last of 400 lines", "  ", "")
	scroll(t, p, 2, 1)
	paints(t, p, "the last of 400 lines", "z ", "")
}

func TestP10Resize(t *testing.T) {
	p := painter(t, 4, 2)
	show(t, p, api.Window{Key: 1, X: 1, W: 3, H: 2, Style: 9, Text: "abcdefghi"}, api.Window{Key: 2, X: 4, Y: 2, W: 1, H: 1, Text: "z"})
	scroll(t, p, 1, 1)
	for _, c := range []struct {
		w, h          int
		chars, styles string
	}{
		{4, 2, " def| ghi", "7999|7999"}, {2, 1, " d", "79"}, {1, 1, " ", "7"}, {1, 3, " | | ", "7|7|7"}, {4, 2, " def| ghi", "7999|7999"}, {5, 3, " def | ghi |    z", "79997|79997|77770"}, {6, 1, " def  ", "799977"}, {4, 2, " def| ghi", "7999|7999"},
	} {
		resizePainter(t, p, c.w, c.h)
		paints(t, p, fmt.Sprintf("%d by %d", c.w, c.h), c.chars, c.styles)
	}
	resizePainter(t, p, 40, 20)
	if a, b, e := p.Row(19); a != strings.Repeat(" ", 40) || b != strings.Repeat("\x07", 40) || e != api.OK {
		t.Errorf("the last row of 40 by 20 is %q, %q, %d", a, b, e)
	}
	scroll(t, p, 1, -1)
	resizePainter(t, p, 4, 2)
	paints(t, p, "scrolled between two sizes", " abc| def", "7999|7999")
}

func TestP11RedrawChangesNoView(t *testing.T) {
	p := painter(t, 4, 1)
	show(t, p, api.Window{Key: 1, W: 2, H: 1, Text: "abcd"})
	scroll(t, p, 1, 1)
	if _, e := p.Redraw(); e != api.OK {
		t.Errorf("Redraw() = %d", e)
	}
	paints(t, p, "redrawn", "cd  ", "0077")
	scroll(t, p, 1, -1)
	paints(t, p, "redrawn and scrolled", "ab  ", "0077")
}

// model: what a painter is to show, in the plainest way.
type model struct {
	w, h   int
	view   []api.Window
	offset map[int]int
}

func (m *model) lines(w api.Window) []string {
	var all []string
	for _, part := range strings.Split(w.Text, "\n") {
		for len(part) > w.W {
			all = append(all, part[:w.W])
			part = part[w.W:]
		}
		all = append(all, part)
	}
	return all
}

func (m *model) scroll(w api.Window, to int) {
	m.offset[w.Key] = max(0, min(to, len(m.lines(w))-w.H))
}

func (m *model) show(view []api.Window) {
	before := m.offset
	m.view, m.offset = slices.Clone(view), map[int]int{}
	for _, w := range view {
		m.scroll(w, before[w.Key])
	}
}

func (m *model) rows() (string, string) {
	chars, styles := make([][]byte, m.h), make([][]byte, m.h)
	for y := range m.h {
		chars[y], styles[y] = []byte(strings.Repeat(" ", m.w)), []byte(strings.Repeat("7", m.w))
	}
	inOrder := slices.Clone(m.view)
	slices.SortStableFunc(inOrder, func(a, b api.Window) int { return a.Layer - b.Layer })
	for _, w := range inOrder {
		lines := append(m.lines(w)[m.offset[w.Key]:], make([]string, w.H)...)
		for i := range w.H {
			line := lines[i] + strings.Repeat(" ", w.W-len(lines[i]))
			for j := range w.W {
				x, y, c := w.X+j, w.Y+i, line[j]
				if x < 0 || x >= m.w || y < 0 || y >= m.h {
					continue
				}
				if c < ' ' || c > '~' {
					c = '?'
				}
				chars[y][x], styles[y][x] = c, "0123456789abcdef"[w.Style]
			}
		}
	}
	var a, b []string
	for y := range m.h {
		a, b = append(a, string(chars[y])), append(b, string(styles[y]))
	}
	return strings.Join(a, "|"), strings.Join(b, "|")
}

func someText(r *rand.Rand) string {
	b := make([]byte, r.Intn(r.Intn(400)+1))
	letters := "ab cdefghijklmnopqrstuvwxyz~ \n\n\t\x7f\xff"
	for i := range b {
		b[i] = letters[r.Intn(len(letters))]
	}
	return string(b)
}

func someWindow(r *rand.Rand, key int) api.Window {
	w := api.Window{Key: key, X: r.Intn(12) - 4, Y: r.Intn(8) - 3, W: 1 + r.Intn(8), H: 1 + r.Intn(5), Layer: r.Intn(5) - 2, Style: r.Intn(16), Text: someText(r)}
	if r.Intn(8) == 0 {
		w.X, w.Y, w.W, w.H = r.Intn(199)-99, r.Intn(199)-99, 1+r.Intn(99), 1+r.Intn(99)
	}
	return w
}

func someView(r *rand.Rand) []api.Window {
	keys := r.Perm(14)
	var view []api.Window
	for i := range r.Intn(13) {
		view = append(view, someWindow(r, keys[i]+1))
	}
	return view
}

func TestP7ToP10ManyCalls(t *testing.T) {
	r := rand.New(rand.NewSource(7))
	for range 300 {
		m := model{w: 1 + r.Intn(10), h: 1 + r.Intn(6), offset: map[int]int{}}
		p := painter(t, m.w, m.h)
		for call := range 40 {
			switch r.Intn(6) {
			case 0:
				m.show(someView(r))
				show(t, p, m.view...)
			case 1:
				m.w, m.h = 1+r.Intn(12), 1+r.Intn(8)
				resizePainter(t, p, m.w, m.h)
			default:
				if len(m.view) > 0 {
					w, by := m.view[r.Intn(len(m.view))], r.Intn(13)-6
					m.scroll(w, m.offset[w.Key]+by)
					scroll(t, p, w.Key, by)
				}
			}
			chars, styles := m.rows()
			paints(t, p, fmt.Sprint("call ", call), chars, styles)
			if t.Failed() {
				t.Fatalf("the view is %v, the offsets %v", m.view, m.offset)
			}
		}
	}
}
