package calc

import (
	"strings"

	"jalousie/api"
	"jalousie/rat"
)

// writer writes expressions that are shaped.
type writer struct {
	text strings.Builder
	bad  bool // there was a number that no text gives
}

// whole writes what stands in nothing. A sum and a product are read only within a function there, so calc stands ahead of their parentheses.
func (w *writer) whole(e api.Expr) {
	if e.Kind == api.ESum || e.Kind == api.EProd {
		w.text.WriteString("calc")
	}
	w.operand(e)
}

func (w *writer) sum(e api.Expr) {
	if e.Kind != api.ESum {
		w.product(e)
		return
	}
	w.chain(e.Kids, api.ENeg, " + ", " - ", w.product)
}

func (w *writer) product(e api.Expr) {
	if e.Kind != api.EProd {
		w.operand(e)
		return
	}
	w.chain(e.Kids, api.EInv, " * ", " / ", w.operand)
}

// chain writes kids with operators between them: back ahead of one of the kind turned, of which the kid is written; on ahead of the others.
func (w *writer) chain(kids []api.Expr, turned int, on, back string, write func(api.Expr)) {
	for i, kid := range kids {
		switch {
		case i == 0:
		case kid.Kind == turned:
			w.text.WriteString(back)
			kid = kid.Kids[0]
		default:
			w.text.WriteString(on)
		}
		write(kid)
	}
}

func (w *writer) operand(e api.Expr) {
	switch e.Kind {
	case api.ENum:
		w.number(e)
	case api.EMin:
		w.function("min(", e.Kids)
	case api.EMax:
		w.function("max(", e.Kids)
	case api.EClamp:
		w.function("clamp(", e.Kids)
	default:
		w.text.WriteString("(")
		w.sum(e)
		w.text.WriteString(")")
	}
}

func (w *writer) function(name string, kids []api.Expr) {
	w.text.WriteString(name)
	for i, kid := range kids {
		if i > 0 {
			w.text.WriteString(", ")
		}
		w.sum(kid)
	}
	w.text.WriteString(")")
}

func (w *writer) number(e api.Expr) {
	digits, errno := rat.Plain(e.Num, e.Num.Den == 1)
	if errno != api.OK {
		w.bad = true
		return
	}
	w.text.WriteString(digits)
	w.text.WriteString(unitNames[e.Unit])
}
