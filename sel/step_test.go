package sel

import (
	"math"
	"strings"
	"testing"

	"jalousie/api"
)

// steps: of this step, read, both kinds of selector have this A and B.
func steps(t *testing.T, text string, a, b int) {
	t.Helper()
	for name, kind := range map[string]int{":nth-child(": api.SNth, ":nth-last-child(": api.SLastOf} {
		told(t, text, values(name+text+")"), side(api.Simple{Kind: kind, A: a, B: b}))
		told(t, text, values(name+"/**/ \n"+text+" /**/ )"), side(api.Simple{Kind: kind, A: a, B: b}))
	}
}

func noSteps(t *testing.T, texts ...string) {
	t.Helper()
	for _, s := range texts {
		noList(t, ":nth-child("+s+")", ":nth-last-child("+s+")")
	}
}

// P9.1: steps that are one token.
func TestStepsOfOne(t *testing.T) {
	for _, s := range cased("odd") {
		steps(t, s, 2, 1)
	}
	for _, s := range cased("even") {
		steps(t, s, 2, 0)
	}
	for s, n := range map[string]int{"0": 0, "-0": 0, "1": 1, "+1": 1, "-1": -1, "007": 7, "1073741824": api.MaxStep, "-1073741824": -api.MaxStep, "0000000000000000000000001": 1} {
		steps(t, s, 0, n)
		for _, unit := range []string{"n", "N", "\\6e "} {
			steps(t, s+unit, n, 0)
		}
	}
	steps(t, "n", 1, 0)
	steps(t, "N", 1, 0)
	steps(t, "-n", -1, 0)
	steps(t, "-N", -1, 0)
	steps(t, "\\-n", -1, 0)
	noSteps(t, "", "odd odd", "odd 1", "odd+1", "even+1", "even n", "-odd", "-even", "odds", "2odd", "1073741825", "-1073741825", "99999999999999999999", "1e3", "1.0", "0.5", "1e0", "+", "-", "1%", "1 1", "1+1", "1 + 1", "1 n", "1073741825n", "-1073741825n", "99999999999999999999n", "1.0n", "1e3n", ".5n",
		"m", "nn", "--n", "+n", "+ n", "- n", "-", "n n", "2n n", "n2", "2m", "2-n", "2nn", "n()", "(n)", "#n", `"n"`, "@n", "n,", ",n", "n:", "*", "n*2", "n%", "2n%", "nodd")
}

// P9.1: steps with a number behind, with a sign of its own or one that stands alone.
func TestStepsWithShift(t *testing.T) {
	for first, a := range map[string]int{"n": 1, "N": 1, "-n": -1, "-N": -1, "2n": 2, "+2N": 2, "-3n": -3, "0n": 0, "1073741824n": api.MaxStep, "-1073741824n": -api.MaxStep} {
		for _, gap := range []string{" ", "/**/", " /**/ ", "\n"} {
			for s, b := range map[string]int{"0": 0, "-0": 0, "4": 4, "+4": 4, "-4": -4, "1073741824": api.MaxStep, "-1073741824": -api.MaxStep} {
				steps(t, first+gap+s, a, b)
			}
			for _, other := range []string{" ", "", "/**/", " /**/ "} {
				for s, b := range map[string]int{"0": 0, "4": 4, "007": 7, "1073741824": api.MaxStep} {
					steps(t, first+gap+"+"+other+s, a, b)
					steps(t, first+gap+"-"+other+s, a, -b)
				}
				if other != "" {
					steps(t, first+gap+"+"+other+"+4", a, 4)
					steps(t, first+gap+"-"+other+"+4", a, -4)
					steps(t, first+gap+"-"+other+"-0", a, 0)
					noSteps(t, first+gap+"+"+other+"-4", first+gap+"-"+other+"-4", first+gap+"-"+other+"-1073741825")
				}
				noSteps(t, first+gap+"+"+other, first+gap+"-"+other, first+gap+"+"+other+"1073741825", first+gap+"-"+other+"1073741825", first+gap+"+"+other+"99999999999999999999", first+gap+"+"+other+"1.0", first+gap+"-"+other+"1e1", first+gap+"+"+other+"4n", first+gap+"+"+other+"a", first+gap+"+"+other+"4%", first+gap+"+"+other+"4 4", first+gap+"+"+other+"4 + 4")
			}
			noSteps(t, first+gap+"1073741825", first+gap+"-1073741825", first+gap+"99999999999999999999", first+gap+"1.0", first+gap+"1e1", first+gap+"4 4", first+gap+"4+4", first+gap+"4n", first+gap+"odd", first+gap+"4%", first+gap+"* 4", first+gap+"(4)", first+gap+"4,", first+gap+"> 4", first+gap+"+ + 4", first+gap+"- - 4", first+gap+"+ - 4")
		}
		steps(t, first+"+4", a, 4)
		steps(t, first+"+ 4", a, 4)
		steps(t, first+"+/**/4", a, 4)
		noSteps(t, first+"+-4", first+"++-4", first+"+", first+"-", first+"- 4", first+"-+4", first+"--4", first+"-/**/4")
		steps(t, first+"++4", a, 4)
	}
}

// P9.1: steps whose digits stand in the name or the unit.
func TestStepsInNames(t *testing.T) {
	for first, a := range map[string]int{"n": 1, "N": 1, "-n": -1, "-N": -1, "2n": 2, "-3N": -3, "0n": 0, "+1073741824n": api.MaxStep} {
		for s, b := range map[string]int{"0": 0, "1": -1, "42": -42, "0000000000": 0, "0000000001": -1, "1073741824": -api.MaxStep, "999999999": -999999999} {
			steps(t, first+"-"+s, a, b)
			noSteps(t, first+"-"+s+" 1", first+"-"+s+"+1", first+"-"+s+" + 1", first+"-"+s+"-1", first+"-"+s+"a", first+"-"+s+"n", first+"-"+s+"%", first+"-"+s+".0", first+"--"+s, first+"-\\+"+s, first+"-"+s+"\\ ", first+"-\\ "+s, first+"-"+s+"_")
		}
		noSteps(t, first+"-00000000000", first+"-00000000001", first+"-1073741825", first+"-9999999999", first+"-10000000000", first+"-"+strings.Repeat("1", 30), first+"-", first+"-x", first+"-٣", first+"-1e1", first+"_1", first+"1")
	}
	noSteps(t, "m-1", "-m-1", "--n-1", "2-n-1", "2m-1", "odd-1", "1073741825n-1", "1.0n-1", "99999999999999999999n-1", "nn-1")
}

// P9.1: raw numbers: those that are not whole, that may not be, that are over, with Int and without.
func TestRawSteps(t *testing.T) {
	number := func(kind int, num, den int64, whole bool, text string) api.Value {
		return api.Value{Tok: api.Token{Kind: kind, Num: api.Rat{Num: num, Den: den}, Int: whole, Text: text}}
	}
	for _, r := range []api.Rat{{Num: 1, Den: 2}, {}, {Num: 4, Den: 2}, {Num: 1, Den: 0}, {Num: 1, Den: -1}, {Num: -1, Den: -1}, {Num: api.MaxStep + 1, Den: 1}, {Num: -api.MaxStep - 1, Den: 1}, {Num: math.MaxInt64, Den: 1}, {Num: math.MinInt64, Den: 1}, {Num: 1 << 32, Den: 1}, {Num: 1<<32 + 1, Den: 1}, {Num: 0, Den: 2}, {Num: math.MinInt64, Den: math.MinInt64}} {
		refused(t, r, rawOf("nth-child", number(api.TNumber, r.Num, r.Den, true, "")), api.ErrSyntax)
		refused(t, r, rawOf("nth-child", number(api.TDim, r.Num, r.Den, true, "n")), api.ErrSyntax)
		refused(t, r, rawOf("nth-child", number(api.TDim, r.Num, r.Den, true, "n-1")), api.ErrSyntax)
		refused(t, r, rawOf("nth-child", rawIdent("n"), number(api.TNumber, r.Num, r.Den, true, "")), api.ErrSyntax)
		refused(t, r, rawOf("nth-child", rawIdent("n"), rawDelim("-"), number(api.TNumber, r.Num, r.Den, true, "")), api.ErrSyntax)
	}
	refused(t, "no Int", rawOf("nth-child", number(api.TNumber, 1, 1, false, "")), api.ErrSyntax)
	refused(t, "no Int", rawOf("nth-child", number(api.TDim, 1, 1, false, "n")), api.ErrSyntax)
	refused(t, "no Int", rawOf("nth-child", rawIdent("n"), number(api.TNumber, 1, 1, false, "")), api.ErrSyntax)
	refused(t, "a percentage", rawOf("nth-child", number(api.TPercent, 1, 1, true, "")), api.ErrSyntax)
	refused(t, "a percentage", rawOf("nth-child", rawIdent("n"), number(api.TPercent, 1, 1, true, "")), api.ErrSyntax)
	refused(t, "a length", rawOf("nth-child", rawIdent("n"), number(api.TDim, 1, 1, true, "n")), api.ErrSyntax)
	for _, s := range []string{"", "n\x00", "\xff", "-n", "n ", "n-", "n-\xff", "n-1\x00"} {
		refused(t, s, rawOf("nth-child", number(api.TDim, 1, 1, true, s)), api.ErrSyntax)
	}
	told(t, "a Text that means nothing", rawOf("nth-child", number(api.TNumber, 7, 1, true, "n")), side(nth(0, 7)))
	told(t, "spaces", rawOf("nth-child", rawOne(api.TSpace), rawOne(api.TSpace), rawIdent("n"), rawOne(api.TSpace), rawOne(api.TSpace), rawDelim("-"), rawOne(api.TSpace), rawOne(api.TSpace), number(api.TNumber, 7, 1, true, ""), rawOne(api.TSpace)), side(nth(1, -7)))
	for _, s := range []string{"", "++", "+ ", "--", "*", ">"} {
		refused(t, s, rawOf("nth-child", rawIdent("n"), rawDelim(s), number(api.TNumber, 7, 1, true, "")), api.ErrSyntax)
	}
}
