package prop

import "jalousie/api"

// table tells what is known of each property, by rising names. Each call makes the lists of words anew, so what is told of it is the caller's own.
func table() [14]api.Prop {
	return [...]api.Prop{
		{Name: "color", Kind: api.PWord, Down: true, Words: []string{"black", "white", "red", "green", "blue", "transparent"}, Initial: word("black")},
		{Name: "display", Kind: api.PWord, Words: []string{"inline", "block", "none", "flex", "grid"}, Initial: word("inline")},
		{Name: "font-size", Kind: api.PLength, Down: true, Initial: px(16)},
		{Name: "gap", Kind: api.PLength, Initial: px(0)},
		{Name: "height", Kind: api.PLength, Words: []string{"auto"}, Initial: word("auto")},
		{Name: "left", Kind: api.PLength, Low: true, Words: []string{"auto"}, Initial: word("auto")},
		{Name: "line-height", Kind: api.PNumber, Down: true, Initial: number(6, 5)},
		{Name: "margin", Kind: api.PLength, Low: true, Words: []string{"auto"}, Initial: px(0)},
		{Name: "opacity", Kind: api.PNumber, Initial: number(1, 1)},
		{Name: "order", Kind: api.PNumber, Low: true, Initial: number(0, 1)},
		{Name: "padding", Kind: api.PLength, Initial: px(0)},
		{Name: "text-align", Kind: api.PWord, Down: true, Words: []string{"start", "end", "center"}, Initial: word("start")},
		{Name: "visibility", Kind: api.PWord, Down: true, Words: []string{"visible", "hidden", "collapse"}, Initial: word("visible")},
		{Name: "width", Kind: api.PLength, Words: []string{"auto"}, Initial: word("auto")},
	}
}

func word(s string) api.Comp { return api.Comp{Kind: api.CWord, Word: s} }

func px(n int64) api.Comp { return api.Comp{Kind: api.CLength, Num: api.Rat{Num: n, Den: 1}} }

func number(num, den int64) api.Comp {
	return api.Comp{Kind: api.CNumber, Num: api.Rat{Num: num, Den: den}}
}

func places() map[string]int {
	m := make(map[string]int)
	for at, p := range table() {
		m[p.Name] = at
	}
	return m
}
