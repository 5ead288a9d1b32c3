package rule

import (
	"strings"

	"jalousie/api"
)

// group is a group whose rules are being read, and what of its list is still to be read. The outermost one is the sheet.
type group struct {
	rule   api.Rule
	at, to int
}

// rules reads the rules of the whole list. How many groups are open is the depth of the rules in the innermost one.
func (n nest) rules() []api.Rule {
	open := []group{{to: len(n.list)}}
groups:
	for {
		top := &open[len(open)-1]
		for top.at < top.to {
			switch n.list[top.at].Kind {
			case api.TSpace:
				top.at++
			case api.TAt:
				if inner, ok := n.takeAtRule(top, len(open)); ok {
					open = append(open, inner)
					continue groups
				}
			case api.TCdo, api.TCdc:
				if len(open) == 1 {
					top.at++
					break
				}
				fallthrough
			default:
				n.takeQualified(top, len(open))
			}
		}
		if len(open) == 1 {
			return top.rule.Rules
		}
		open = shutGroup(open)
	}
}

// shutGroup puts the innermost group, which is read, among the rules of the one around it.
func shutGroup(open []group) []group {
	inner, rest := open[len(open)-1], open[:len(open)-1]
	outer := &rest[len(rest)-1].rule
	outer.Rules = append(outer.Rules, inner.rule)
	return rest
}

// takeAtRule takes the at-rule that comes next, and tells the group that it is, with its rules still to be read, if it stays.
func (n nest) takeAtRule(g *group, depth int) (group, bool) {
	at := g.at
	block, ok := n.atRuleEnd(at, g.to)
	g.at = n.behind(block, g.to)
	name := lower(n.list[at].Text)
	if !ok || !isGroup(name) || !n.isBlock(block, g.to) || depth > api.MaxNest {
		return group{}, false
	}
	rule := api.Rule{Kind: api.RGroup, Name: name, Prelude: trimmed(n.values(at+1, block))}
	return group{rule: rule, at: block + 1, to: n.ends[block]}, true
}

// atRuleEnd tells where the values of the at-rule end that begins at a place, and whether none of them is too deep.
func (n nest) atRuleEnd(at, to int) (int, bool) {
	return n.until(at+1, to, api.TSemi, api.TOpenCurly)
}

func (n nest) isBlock(at, to int) bool {
	return at < to && n.list[at].Kind == api.TOpenCurly
}

func isGroup(name string) bool {
	switch name {
	case "media", "supports", "container":
		return true
	}
	return false
}

// takeQualified takes the qualified rule that comes next.
func (n nest) takeQualified(g *group, depth int) {
	at := g.at
	block, ok := n.until(at, g.to, api.TOpenCurly)
	g.at = n.behind(block, g.to)
	if !ok || !n.isBlock(block, g.to) || depth > api.MaxNest {
		return
	}
	g.rule.Rules = append(g.rule.Rules, api.Rule{
		Kind:    api.RStyle,
		Prelude: trimmed(n.values(at, block)),
		Decls:   n.decls(block+1, n.ends[block]),
	})
}

// decls reads the declarations of a list.
func (n nest) decls(at, to int) []api.Decl {
	var found []api.Decl
	for at < to {
		switch n.list[at].Kind {
		case api.TSpace, api.TSemi:
			at++
		case api.TAt:
			block, _ := n.atRuleEnd(at, to)
			at = n.behind(block, to)
		default:
			end, shallow := n.until(at, to, api.TSemi)
			if colon, ok := n.colon(at, end); ok && shallow {
				value, important := unmarked(trimmed(n.values(colon+1, end)))
				found = append(found, api.Decl{Name: nameOf(n.list[at].Text), Value: value, Important: important})
			}
			at = end
		}
	}
	return found
}

// colon tells where the TColon of a declaration stands, if the list is one.
func (n nest) colon(at, to int) (int, bool) {
	if n.list[at].Kind != api.TIdent {
		return 0, false
	}
	at++
	for at < to && n.list[at].Kind == api.TSpace {
		at++
	}
	return at, at < to && n.list[at].Kind == api.TColon
}

// unmarked tells l, which is trimmed, without ! and important at its end, and whether they stood there.
func unmarked(l []api.Value) ([]api.Value, bool) {
	rest, ok := cut(l, isImportant)
	if ok {
		rest, ok = cut(rest, isMark)
	}
	if !ok {
		return l, false
	}
	return rest, true
}

// cut tells l without its last token and the TSpace ahead of it, if the token is such a one.
func cut(l []api.Value, is func(api.Token) bool) ([]api.Value, bool) {
	last := len(l) - 1
	if last < 0 || !is(l[last].Tok) {
		return l, false
	}
	return trimmedEnd(l[:last]), true
}

func isImportant(t api.Token) bool {
	return t.Kind == api.TIdent && lower(t.Text) == "important"
}

func isMark(t api.Token) bool { return t.Kind == api.TDelim && t.Text == "!" }

// nameOf tells a property's name; custom ones keep their letters.
func nameOf(s string) string {
	if strings.HasPrefix(s, "--") {
		return s
	}
	return lower(s)
}

// lower goes by bytes: a text that is handed in raw may be no whole characters, and stays so.
func lower(s string) string {
	b := []byte(s)
	for i, c := range b {
		if c >= 'A' && c <= 'Z' {
			b[i] = c - 'A' + 'a'
		}
	}
	return string(b)
}
