package print

import (
	"strings"

	"jalousie/api"
	"jalousie/spell"
)

// writer gathers a text, piece by piece.
type writer struct {
	text   strings.Builder
	around int // how many groups stand around what comes next
}

// told tells the whole text: beside an error none of it, however much was gathered.
func (w *writer) told(e api.Errno) (string, api.Errno) {
	if e != api.OK {
		return "", e
	}
	return w.text.String(), api.OK
}

// put takes what a call told: its text, or else its error, which goes on.
func (w *writer) put(s string, e api.Errno) api.Errno {
	w.text.WriteString(s)
	return e
}

// each has the parts of a list written, up to the first one that may not be.
func each[T any](l []T, write func(T) api.Errno) api.Errno {
	for _, part := range l {
		if e := write(part); e != api.OK {
			return e
		}
	}
	return api.OK
}

// block writes a prelude and, in braces, the parts of a rule.
func block[T any](w *writer, prelude []api.Value, parts []T, write func(T) api.Errno) api.Errno {
	if e := w.put(Values(prelude)); e != api.OK {
		return e
	}
	w.text.WriteByte('{')
	if e := each(parts, write); e != api.OK {
		return e
	}
	w.text.WriteByte('}')
	return api.OK
}

func (w *writer) decl(d api.Decl) api.Errno {
	if e := w.put(spell.Ident(d.Name)); e != api.OK {
		return e
	}
	w.text.WriteByte(':')
	if e := w.put(Values(d.Value)); e != api.OK {
		return e
	}
	if d.Important {
		w.text.WriteString(" !important")
	}
	w.text.WriteByte(';')
	return api.OK
}

// rule asks for the depth on the way down, so that rules which hold themselves come to an end too.
func (w *writer) rule(r api.Rule) api.Errno {
	switch {
	case w.around >= api.MaxNest:
		return api.ErrArg
	case isStyle(r):
		return block(w, r.Prelude, r.Decls, w.decl)
	case isGroup(r):
		return w.group(r)
	}
	return api.ErrArg
}

func (w *writer) group(r api.Rule) api.Errno {
	w.text.WriteString("@" + r.Name + " ")
	w.around++
	e := block(w, r.Prelude, r.Rules, w.rule)
	w.around--
	return e
}

func isStyle(r api.Rule) bool {
	return r.Kind == api.RStyle && r.Name == "" && len(r.Rules) == 0
}

func isGroup(r api.Rule) bool {
	return r.Kind == api.RGroup && isGroupName(r.Name) && len(r.Decls) == 0
}

func isGroupName(s string) bool {
	switch s {
	case "media", "supports", "container":
		return true
	}
	return false
}
