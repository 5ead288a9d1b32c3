package rule

import "jalousie/api"

// none stands where there is no closer.
const none = 0

func isKind(kind int) bool { return kind >= api.TIdent && kind <= api.TCloseCurly }

// closerOf tells the kind of an opener's closer, or none, if kind is no opener's.
func closerOf(kind int) int {
	switch kind {
	case api.TOpenSquare:
		return api.TCloseSquare
	case api.TOpenCurly:
		return api.TCloseCurly
	case api.TFunc, api.TOpenParen:
		return api.TCloseParen
	}
	return none
}

// level is a list that is being gone through, on the path from the outermost one down.
type level struct {
	rest   []api.Value
	closer int // what is to stand behind it
}

func (l *level) take() api.Value {
	v := l.rest[0]
	l.rest = l.rest[1:]
	return v
}

// trimmed tells a part of l itself; nil, if nothing is left, as of all empty lists that are told.
func trimmed(l []api.Value) []api.Value {
	for len(l) > 0 && l[0].Tok.Kind == api.TSpace {
		l = l[1:]
	}
	return trimmedEnd(l)
}

func trimmedEnd(l []api.Value) []api.Value {
	for len(l) > 0 && l[len(l)-1].Tok.Kind == api.TSpace {
		l = l[:len(l)-1]
	}
	if len(l) == 0 {
		return nil
	}
	return l
}

// copyOf copies l and all lists in it.
func copyOf(l []api.Value) []api.Value {
	all := flatCopy(l)
	todo := [][]api.Value{all}
	for len(todo) > 0 {
		list := todo[len(todo)-1]
		todo = todo[:len(todo)-1]
		for i, v := range list {
			kids := flatCopy(v.Kids)
			list[i].Kids = kids
			if len(kids) > 0 {
				todo = append(todo, kids)
			}
		}
	}
	return all
}

// flatCopy copies l alone: the values' Kids are still those of l. An empty list becomes nil, since its spare room is not the copy's.
func flatCopy(l []api.Value) []api.Value {
	return append([]api.Value(nil), l...)
}
