package params

import (
	"slices"
	"testing"
)

func TestInOrder(t *testing.T) {
	for _, c := range []struct {
		bytes   string
		query   bool
		numbers []int
	}{
		{"", false, []int{0}}, {"0", false, []int{0}}, {"7", false, []int{7}}, {"007", false, []int{7}}, {"999", false, []int{999}},
		{";", false, []int{0, 0}}, {"1;", false, []int{1, 0}}, {";1", false, []int{0, 1}}, {"12;345;6", false, []int{12, 345, 6}},
		{"?", true, []int{0}}, {"?25", true, []int{25}}, {"?;25", true, []int{0, 25}}, {"?1;25", true, []int{1, 25}},
		{"123;456;789", false, []int{123, 456, 789}}, {"123;456;789;", false, []int{123, 456, 789, 0}},
		{"?12;456;789;", true, []int{12, 456, 789, 0}},
		{";;;;;;;;;;;;", false, []int{0, 0, 0, 0, 0, 0, 0, 0, 0, 0, 0, 0, 0}},
	} {
		p, ok := Read([]byte(c.bytes))
		if !ok || p.Query != c.query || !slices.Equal(p.Numbers, c.numbers) {
			t.Errorf("P6: Read(%q) = %v, %v, want %v, %v", c.bytes, p, ok, c.query, c.numbers)
		}
	}
}

func TestNotInOrder(t *testing.T) {
	for _, b := range []string{
		"1234", "0000", "1;2345", "1 2", " ", "1:2", "1<", "/", ">1", "??", "??25", "1?", "1;?2", "-1", "+1", "1,2",
		";;;;;;;;;;;;;", "123;456;789;0", "?123;456;789;", "1;2;3;4;5;6;7;8;9;10",
	} {
		if p, ok := Read([]byte(b)); ok || p.Query || p.Numbers != nil {
			t.Errorf("P6: Read(%q) = %v, %v, want false", b, p, ok)
		}
	}
}

func TestHandedIn(t *testing.T) {
	b := []byte("?1;25")
	p, _ := Read(b)
	if string(b) != "?1;25" {
		t.Errorf("the bytes are %q now", b)
	}
	b[1] = '9'
	if p.Number(0) != 1 {
		t.Errorf("the first number is %d now", p.Number(0))
	}
}

func TestNumber(t *testing.T) {
	p := Params{Numbers: []int{4, 5}}
	for _, c := range [][2]int{{0, 4}, {1, 5}, {2, 0}, {-1, 0}, {1 << 62, 0}} {
		if n := p.Number(c[0]); n != c[1] {
			t.Errorf("Number(%d) = %d, want %d", c[0], n, c[1])
		}
	}
	if !p.Has(4) || !p.Has(5) || p.Has(0) || p.Has(6) {
		t.Errorf("Has of %v is wrong", p.Numbers)
	}
}
