package unit

import (
	"jalousie/api"
	"jalousie/rat"
)

// sizes is how large each unit is, in px: the unit u at the place u. A number's place, UNone, is over, and nobody asks for it.
type sizes [api.UCqh + 1]api.Rat

var nothing = api.Rat{Num: 0, Den: 1}

func sizesOf(c api.Ctx) sizes {
	return sizes{
		api.UPx:  rat.Of(1, 1),
		api.UEm:  counted(c.Font),
		api.URem: counted(c.Root),
		api.UVw:  hundredth(c.W),
		api.UVh:  hundredth(c.H),
		api.UCqw: hundredth(c.Cw),
		api.UCqh: hundredth(c.Ch),
	}
}

// counted tells what r counts as: what may not be is over.
func counted(r api.Rat) api.Rat {
	if !rat.May(r) {
		return api.Rat{}
	}
	return r
}

func hundredth(r api.Rat) api.Rat { return rat.Div(r, rat.Of(100, 1)) }

func names() [api.UCqh + 1]string {
	return [...]string{
		api.UPx:  "px",
		api.UEm:  "em",
		api.URem: "rem",
		api.UVw:  "vw",
		api.UVh:  "vh",
		api.UCqw: "cqw",
		api.UCqh: "cqh",
	}
}
