// Package views: the windows of a view, and what is to be seen of them.
package views

import (
	"repaint/api"
	"repaint/cells"
)

// View is the windows that are shown together, in their order.
type View struct {
	panes []pane
}

// Next makes the view of these windows that comes behind v: a window whose key v has keeps the offset, as far as its own text goes. With an error there is no view.
func (v *View) Next(list []api.Window) (View, api.Errno) {
	e := check(list)
	if e != api.OK {
		return View{}, e
	}
	var next View
	for i := 0; i < len(list); i++ {
		p := newPane(list[i])
		offset := v.offset(p.key)
		p.scrollTo(offset)
		next.panes = append(next.panes, p)
	}
	return next, api.OK
}

// offset is that of the window with this key, and 0, if there is none.
func (v *View) offset(key int) int {
	for i := 0; i < len(v.panes); i++ {
		if v.panes[i].key == key {
			return v.panes[i].offset
		}
	}
	return 0
}

// Scroll adds to a window's offset, as far as its text goes.
func (v *View) Scroll(key int, by int) api.Errno {
	for i := 0; i < len(v.panes); i++ {
		if v.panes[i].key != key {
			continue
		}
		if by < -api.MaxBy || by > api.MaxBy {
			return api.ErrArg
		}
		v.panes[i].scrollTo(v.panes[i].offset + by)
		return api.OK
	}
	return api.ErrKey
}

// Paint lays what is to be seen of the windows on a grid.
func (v *View) Paint(g *cells.Grid) {
	for y := 0; y < g.High; y++ {
		for x := 0; x < g.Wide; x++ {
			p, ok := v.front(x, y)
			if ok {
				c := p.cell(x, y)
				g.Put(x, y, c)
			}
		}
	}
}

// front is the window that hides all others in this place; false, if there is no window.
func (v *View) front(x int, y int) (pane, bool) {
	var front pane
	found := false
	for i := 0; i < len(v.panes); i++ {
		p := v.panes[i]
		if p.covers(x, y) && (!found || p.layer >= front.layer) {
			front = p
			found = true
		}
	}
	return front, found
}
