package views

import (
	"fmt"
	"strings"
	"testing"

	"repaint/api"
	"repaint/cells"
)

func TestCut(t *testing.T) {
	for _, c := range []struct {
		text string
		wide int
		want string // the lines, with | between
	}{
		{"", 1, ""}, {"", 9, ""}, {"a", 1, "a"}, {"ab", 1, "a|b"},
		{"abcde", 2, "ab|cd|e"}, {"abcd", 2, "ab|cd"}, {"abc", 3, "abc"}, {"abc", 99, "abc"},
		{"\n", 2, "|"}, {"\n\n", 2, "||"}, {"ab\n", 2, "ab|"}, {"abc\n", 2, "ab|c|"}, {"abcd\n", 2, "ab|cd|"}, {"\nab", 2, "|ab"},
		{"abcd\n\nef", 2, "ab|cd||ef"}, {"a\nbc\ndef\nghij", 3, "a|bc|def|ghi|j"}, {"a\r\nb\x00\xff", 2, "a\r|b\x00|\xff"},
		{strings.Repeat("\n", api.MaxText), 5, strings.Repeat("|", api.MaxText)},
	} {
		if is := strings.Join(cut(c.text, c.wide), "|"); is != c.want {
			t.Errorf("%.20q with W %d is %.20q, want %.20q", c.text, c.wide, is, c.want)
		}
	}
}

// next: the view of these windows behind v.
func next(t *testing.T, v View, list ...api.Window) View {
	t.Helper()
	n, e := v.Next(list)
	if e != api.OK {
		t.Errorf("Next(%v) = %d", list, e)
	}
	return n
}

// painted: what a view paints on a grid of 4 by 2 full of dots.
func painted(v View) string {
	g, _ := cells.New(4, 2)
	for i := range 8 {
		g.Put(i%4, i/4, cells.Cell{Char: '.', Style: 7})
	}
	v.Paint(g)
	text := ""
	for y := range 2 {
		chars, styles, _ := g.Row(y)
		text += chars + " " + fmt.Sprintf("%x", styles) + " "
	}
	return text
}

func TestPaint(t *testing.T) {
	for _, c := range []struct {
		list []api.Window
		want string
	}{
		{nil, ".... 07070707 .... 07070707 "},
		{[]api.Window{{Key: 1, X: 1, W: 2, H: 1, Style: 15, Text: "ab"}}, ".ab. 070f0f07 .... 07070707 "},
		{[]api.Window{{Key: 1, X: -1, Y: -1, W: 3, H: 3, Text: "abc\ndef\nghi"}}, "ef.. 00000707 hi.. 00000707 "},
		{[]api.Window{{Key: 1, X: 3, Y: 1, W: 2, H: 2, Text: "abcd"}}, ".... 07070707 ...a 07070700 "},
		{[]api.Window{{Key: 1, W: 2, H: 1, Text: "ab"}, {Key: 2, X: 1, W: 2, H: 1, Style: 1, Text: "cd"}}, "acd. 00010107 .... 07070707 "},
		{[]api.Window{{Key: 1, W: 2, H: 1, Layer: 1, Text: "ab"}, {Key: 2, X: 1, W: 2, H: 1, Style: 1, Text: "cd"}}, "abd. 00000107 .... 07070707 "},
	} {
		if is := painted(next(t, View{}, c.list...)); is != c.want {
			t.Errorf("%v paints %s, want %s", c.list, is, c.want)
		}
	}
}

func TestErrorsMakeNoView(t *testing.T) {
	v := next(t, View{}, api.Window{Key: 1, W: 1, H: 1, Text: "x"})
	for _, list := range [][]api.Window{{{Key: 2, W: 1, H: 1}, {}}, make([]api.Window, 13)} {
		n, e := v.Next(list)
		if e == api.OK || n.panes != nil {
			t.Errorf("Next(%v) = %v, %d", list, n, e)
		}
	}
}

func TestScroll(t *testing.T) {
	six := api.Window{Key: 5, W: 2, H: 1, Text: "abcdef"}
	v := next(t, View{}, api.Window{Key: 4, X: 2, W: 1, H: 1, Text: "xyz"}, six)
	for _, c := range []struct {
		key, by int
		e       api.Errno
		want    string
	}{
		{5, 1, api.OK, "cdx."}, {4, 1, api.OK, "cdy."}, {5, -9, api.OK, "aby."}, {5, 500, api.OK, "efy."}, {5, 501, api.ErrArg, "efy."}, {5, -501, api.ErrArg, "efy."}, {6, 501, api.ErrKey, "efy."}, {5, -500, api.OK, "aby."}, {4, 2, api.OK, "abz."},
	} {
		if e := v.Scroll(c.key, c.by); e != c.e {
			t.Errorf("Scroll(%d, %d) = %d", c.key, c.by, e)
		}
		if is := painted(v)[:4]; is != c.want {
			t.Errorf("behind Scroll(%d, %d) is %q, want %q", c.key, c.by, is, c.want)
		}
	}
}

func TestOffsetsGoOn(t *testing.T) {
	six := api.Window{Key: 5, W: 2, H: 1, Text: "abcdef"}
	v := next(t, View{}, six)
	v.Scroll(5, 2)
	n := next(t, v, api.Window{Key: 6, X: 2, W: 2, H: 1, Text: "abcdef"}, six)
	if is := painted(n)[:4]; is != "efab" {
		t.Errorf("behind another view is %q", is)
	}
	n.Scroll(5, -2)
	if is := painted(v)[:4]; is != "ef.." {
		t.Errorf("the view before is %q now", is)
	}
}
