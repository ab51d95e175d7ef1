package views

import "repaint/api"

// check is why a list of windows is no view; OK, if it is one.
func check(list []api.Window) api.Errno {
	if len(list) > api.MaxWindows {
		return api.ErrMany
	}
	for i := 0; i < len(list); i++ {
		e := checkWindow(list[i], list[:i])
		if e != api.OK {
			return e
		}
	}
	return api.OK
}

// checkWindow is what is wrong with a window behind the earlier ones.
func checkWindow(w api.Window, earlier []api.Window) api.Errno {
	if w.Key < 1 || w.Key > api.MaxKey || isTaken(w.Key, earlier) {
		return api.ErrKey
	}
	if !isPlaced(w) {
		return api.ErrPlace
	}
	if !isStyled(w) {
		return api.ErrStyle
	}
	if len(w.Text) > api.MaxText {
		return api.ErrLong
	}
	return api.OK
}

func isTaken(key int, earlier []api.Window) bool {
	for i := 0; i < len(earlier); i++ {
		if earlier[i].Key == key {
			return true
		}
	}
	return false
}

func isPlaced(w api.Window) bool {
	return w.X >= -api.MaxPlace && w.X <= api.MaxPlace &&
		w.Y >= -api.MaxPlace && w.Y <= api.MaxPlace &&
		w.W >= 1 && w.W <= api.MaxPlace &&
		w.H >= 1 && w.H <= api.MaxPlace
}

func isStyled(w api.Window) bool {
	return w.Layer >= -api.MaxLayer && w.Layer <= api.MaxLayer &&
		w.Style >= 0 && w.Style < 2*api.Bold
}
