package sel

import (
	"strconv"
	"strings"

	"jalousie/api"
	"jalousie/spell"
)

// All of this writes what may be; so spell tells no error of its names and values.

func writeList(b *strings.Builder, l []api.Complex) {
	for i, c := range l {
		if i > 0 {
			b.WriteString(", ")
		}
		writeComplex(b, c)
	}
}

func writeComplex(b *strings.Builder, c api.Complex) {
	for _, part := range c.Parts {
		b.WriteString(combText(part.Comb))
		for _, s := range part.Simples {
			writeSimple(b, s)
		}
	}
}

func combText(comb int) string {
	switch comb {
	case api.CDown:
		return " "
	case api.CChild:
		return " > "
	case api.CNext:
		return " + "
	case api.CLater:
		return " ~ "
	}
	return ""
}

func writeSimple(b *strings.Builder, s api.Simple) {
	b.WriteString(frontText(s.Kind))
	switch s.Kind {
	case api.STag, api.SClass, api.SId:
		b.WriteString(identText(s.Name))
	case api.SAttr:
		writeAttr(b, s)
		b.WriteString("]")
	case api.SNot, api.SIs, api.SWhere:
		writeList(b, s.List)
		b.WriteString(")")
	case api.SNth, api.SLastOf:
		b.WriteString(stepText(s.A, s.B))
		b.WriteString(")")
	}
}

// frontText tells what of a simple selector hangs on its kind alone.
func frontText(kind int) string {
	switch kind {
	case api.SAny:
		return "*"
	case api.SClass:
		return "."
	case api.SId:
		return "#"
	case api.SAttr:
		return "["
	case api.SNot:
		return ":not("
	case api.SIs:
		return ":is("
	case api.SWhere:
		return ":where("
	case api.SRoot:
		return ":root"
	case api.SEmpty:
		return ":empty"
	case api.SFirst:
		return ":first-child"
	case api.SLast:
		return ":last-child"
	case api.SOnly:
		return ":only-child"
	case api.SNth:
		return ":nth-child("
	case api.SLastOf:
		return ":nth-last-child("
	}
	return ""
}

func writeAttr(b *strings.Builder, s api.Simple) {
	b.WriteString(identText(s.Name))
	if s.Op == api.OpHas {
		return
	}
	value, _ := spell.Token(api.Token{Kind: api.TString, Text: s.Value})
	b.WriteString(opText(s.Op))
	b.WriteString(value)
	if s.Fold {
		b.WriteString(" i")
	}
}

func opText(op int) string {
	switch op {
	case api.OpWord:
		return "~="
	case api.OpDash:
		return "|="
	case api.OpBegins:
		return "^="
	case api.OpEnds:
		return "$="
	case api.OpIn:
		return "*="
	}
	return "="
}

func identText(name string) string {
	text, _ := spell.Ident(name)
	return text
}

func stepText(a, b int) string {
	if a == 0 {
		return strconv.Itoa(b)
	}
	text := strconv.Itoa(a) + "n"
	if b > 0 {
		text += "+"
	}
	if b != 0 {
		text += strconv.Itoa(b)
	}
	return text
}
