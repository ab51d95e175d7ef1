// Package repaint: a painter of windows on a terminal, and the terminal: see DOC.md.
package repaint
