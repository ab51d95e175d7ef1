// Package params: the parameters of a sequence.
package params

import "repaint/api"

const maxDigits = 3

// Params is what the bytes between a sequence's beginning and its last byte say: whether a `?` stands ahead, and the numbers.
type Params struct {
	Query   bool
	Numbers []int
}

// Read tells what the bytes say; false, if they are not in order.
func Read(b []byte) (Params, bool) {
	if len(b) > api.MaxParam {
		return Params{}, false
	}
	query := len(b) > 0 && b[0] == '?'
	if query {
		b = b[1:]
	}
	numbers, ok := readNumbers(b)
	if !ok {
		return Params{}, false
	}
	return Params{Query: query, Numbers: numbers}, true
}

func readNumbers(b []byte) ([]int, bool) {
	var numbers []int
	n := 0
	digits := 0
	for _, c := range b {
		switch {
		case c == ';':
			numbers = append(numbers, n)
			n = 0
			digits = 0
		case c >= '0' && c <= '9' && digits < maxDigits:
			n = n*10 + int(c-'0')
			digits++
		default:
			return nil, false
		}
	}
	return append(numbers, n), true
}

// Number is the i-th number, from 0 on; 0, if there is none.
func (p Params) Number(i int) int {
	if i < 0 || i >= len(p.Numbers) {
		return 0
	}
	return p.Numbers[i]
}

// Has tells whether one of the numbers is n.
func (p Params) Has(n int) bool {
	for _, m := range p.Numbers {
		if m == n {
			return true
		}
	}
	return false
}
