package rat

import (
	"math/big"
	"math/rand"
	"regexp"
	"strconv"
	"strings"
	"testing"

	"jalousie/api"
)

// P1.4
func TestDecimal(t *testing.T) {
	over, long := api.Rat{}, strings.Repeat("0", 5000)
	for _, c := range []struct {
		s     string
		want  api.Rat
		whole bool
	}{
		{"+.5e1", frac(5, 1), false}, {"1e3", frac(1000, 1), false}, {"007", frac(7, 1), true}, {"-0", frac(0, 1), true}, {"+12", frac(12, 1), true}, {"0.50", frac(1, 2), false},
		{"-.25", frac(-1, 4), false}, {"1.0", frac(1, 1), false}, {"1E+2", frac(100, 1), false}, {"25E-1", frac(5, 2), false}, {"1e0", frac(1, 1), false}, {"-1e-0", frac(-1, 1), false},
		{"1e400", over, false}, {"10e-401", over, false}, {"-1e400", over, false},
		// 18 and 19 digits that count
		{"999999999999999999", frac(999999999999999999, 1), true}, {"-123456789012345678", frac(-123456789012345678, 1), true}, {"1234567890123456789", over, true}, {"-1000000000000000001", over, true},
		{"1000000000000000000", frac(1000000000000000000, 1), true}, {"9000000000000000000", frac(9000000000000000000, 1), true}, {"10000000000000000000", over, true}, {"9223372036854775807", over, true},
		{"99999999999999999999", over, true}, {"1e99", over, false}, {"9.22337203685477580e18", frac(9223372036854775800, 1), false}, {"9.22337203685477581e18", over, false},
		{"0.123456789012345678", frac(61728394506172839, 500000000000000000), false}, {"0.1234567890123456789", over, false}, {"1.0000000000000000001", over, false},
		// noughts on either side do not count
		{long + "1", frac(1, 1), true}, {"1." + long, frac(1, 1), false}, {"1" + long + "e-5000", frac(1, 1), false}, {"." + long + "1e5001", frac(1, 1), false}, {"1" + long, over, true}, {"." + long + "1", over, false},
		{"1000000000000000000000e-20", frac(10, 1), false},
		// great exponents
		{"0e99999999999999999999", frac(0, 1), false}, {"-0.00e-99999999999999999999", frac(0, 1), false}, {"1e99999999999999999999", over, false}, {"1e-99999999999999999999", over, false},
		{"1e9223372036854775808", over, false}, {"1e18446744073709551617", over, false}, {"1e-18446744073709551616", over, false}, {"1e" + long + "2", frac(100, 1), false}, {"5e-" + long + "1", frac(1, 2), false},
		{"1e18", frac(1000000000000000000, 1), false}, {"1e19", over, false}, {"1e-18", frac(1, 1000000000000000000), false}, {"1e-19", over, false}, {"4e-19", frac(1, 2500000000000000000), false}, {"3e-19", over, false},
		{"134217728e-27", frac(1, 7450580596923828125), false}, {"268435456e-28", over, false}, {"152587890625e-16", frac(1, 65536), false}, {"298023223876953125e-62", over, false},
	} {
		got, whole, e := Decimal(c.s)
		if got != c.want || whole != c.whole || e != api.OK {
			t.Errorf("Decimal(%.40q): %v %v %d, not %v %v", c.s, got, whole, e, c.want, c.whole)
		}
	}
	for _, s := range []string{
		"", "+", "-", ".", "1.", "-1.", "1.e3", ".e3", "e3", "e", "1e", "1e+", "1e-", "1e.5", "1e1.5", "1e1e1", "1..2", "1.2.3", "--1", "+-1", "-+1", "1-", "1 ", " 1", "1 2", "- 1",
		"0x1", "1_0", "1f", "inf", "NaN", "over", "1/2", "1e+-1", "1e 1", "1\x00", "\xff", "١", "1e١", "1px",
	} {
		if got, whole, e := Decimal(s); got != (api.Rat{}) || whole || e != api.ErrSyntax {
			t.Errorf("Decimal(%q): %v %v %d, not ErrSyntax", s, got, whole, e)
		}
	}
}

var numberForm = regexp.MustCompile(`^[+-]?([0-9]+(?:\.[0-9]+)?|\.[0-9]+)(?:[eE]([+-]?[0-9]+))?$`)

// wantDecimal: the document's words, by wide numbers; exponents must be small.
func wantDecimal(s string) (api.Rat, bool, api.Errno) {
	parts := numberForm.FindStringSubmatch(s)
	if parts == nil {
		return api.Rat{}, false, api.ErrSyntax
	}
	whole := !strings.ContainsAny(s, ".eE")
	if len(strings.Trim(strings.ReplaceAll(parts[1], ".", ""), "0")) > 18 {
		return api.Rat{}, whole, api.OK
	}
	x, ok := new(big.Rat).SetString(s)
	if !ok {
		panic("no number: " + s)
	}
	return narrow(x), whole, api.OK
}

// eachText calls use with every text of at most length letters of the alphabet.
func eachText(alphabet string, length int, use func(string)) {
	var grow func(text string)
	grow = func(text string) {
		use(text)
		if len(text) == length {
			return
		}
		for i := range len(alphabet) {
			grow(text + alphabet[i:i+1])
		}
	}
	grow("")
}

// P1.4
func TestDecimalOfShortTexts(t *testing.T) {
	eachText("059.eE+- ", 5, func(s string) {
		want, whole, e := wantDecimal(s)
		got, gotWhole, gotE := Decimal(s)
		if got != want || gotWhole != whole || gotE != e {
			t.Errorf("Decimal(%q): %v %v %d, not %v %v %d", s, got, gotWhole, gotE, want, whole, e)
		}
	})
}

// P1.4
func TestDecimalIsExact(t *testing.T) {
	strewn := rand.New(rand.NewSource(2))
	for range 50000 {
		digits := strconv.FormatInt(strewn.Int63()>>strewn.Intn(62), 10) + strings.Repeat("0", strewn.Intn(6))
		if strewn.Intn(3) == 0 { // so that the lower part has something to shorten
			digits = new(big.Int).Exp(big.NewInt([]int64{2, 5}[strewn.Intn(2)]), big.NewInt(strewn.Int63n(62)), nil).String()
		}
		at := strewn.Intn(len(digits) + 1)
		s := []string{"", "+", "-"}[strewn.Intn(3)] + digits[:at] + "." + digits[at:] + strings.Repeat("0", strewn.Intn(2)+1) + "e" + strconv.Itoa(strewn.Intn(90)-45)
		want, whole, e := wantDecimal(s)
		if got, gotWhole, gotE := Decimal(s); got != want || gotWhole != whole || gotE != e {
			t.Errorf("Decimal(%q): %v %v %d, not %v %v %d", s, got, gotWhole, gotE, want, whole, e)
		}
	}
}

// P1.5
func TestPlain(t *testing.T) {
	for _, c := range []struct {
		r     api.Rat
		whole bool
		want  string
	}{
		{frac(3, 2), false, "1.5"}, {frac(5, 1), false, "5.0"}, {frac(5, 1), true, "5"}, {frac(-1, 8), false, "-0.125"}, {frac(0, 1), true, "0"}, {frac(0, 1), false, "0.0"}, {frac(-7, 1), true, "-7"},
		{frac(-70, 1), false, "-70.0"}, {api.Rat{}, true, "99999999999999999999"}, {api.Rat{}, false, "1e99"}, {frac(1, 20), false, "0.05"}, {frac(1001, 100), false, "10.01"},
		{frac(999999999999999999, 1), true, "999999999999999999"}, {frac(999999999999999999, 1), false, "999999999999999999.0"}, {frac(1000000000000000000, 1), true, "1000000000000000000"},
		{frac(-9000000000000000000, 1), false, "-9000000000000000000.0"}, {frac(9223372036854775800, 1), true, "9223372036854775800"}, {frac(999999999999999999, 10), false, "99999999999999999.9"},
		{frac(999999999999999999, 1000000000000000000), false, "0.999999999999999999"}, {frac(1, 1000000000000000000), false, "0.000000000000000001"},
		{frac(1, 7450580596923828125), false, "0.000000000000000000134217728"}, {frac(1, 1<<25), false, "0.0000000298023223876953125"},
	} {
		got, e := Plain(c.r, c.whole)
		if got != c.want || e != api.OK {
			t.Errorf("Plain(%v, %v): %q %d, not %q", c.r, c.whole, got, e, c.want)
		}
	}
	for _, c := range []struct {
		r     api.Rat
		whole bool
	}{
		{frac(1, 3), false}, {frac(1, 3), true}, {frac(3, 2), true}, {frac(1, 6), false}, {frac(-2, 15), false}, {frac(highest, 1), true}, {frac(highest, 1), false}, {frac(-highest, 1), true},
		{frac(1000000000000000001, 1), true}, {frac(1000000000000000001, 10), false}, {frac(1, 1<<62), false}, {frac(1, 1<<26), false}, {frac(highest, 1<<62), false}, {frac(1, highest), false}, {frac(highest, 2), false},
	} {
		if got, e := Plain(c.r, c.whole); got != "" || e != api.ErrArg {
			t.Errorf("Plain(%v, %v): %q %d, not ErrArg", c.r, c.whole, got, e)
		}
	}
	for _, r := range barred {
		for _, whole := range []bool{false, true} {
			if got, e := Plain(r, whole); got != "" || e != api.ErrArg {
				t.Errorf("Plain(%v, %v): %q %d, not ErrArg", r, whole, got, e)
			}
		}
	}
}

// wantPlain: the document's words, by wide numbers; of what is not over.
func wantPlain(r api.Rat, whole bool) (string, api.Errno) {
	x := wide(r)
	places, finite := x.FloatPrec()
	text := x.FloatString(max(places, 1))
	if whole {
		text = x.FloatString(0)
	}
	count := len(strings.Trim(strings.ReplaceAll(strings.TrimPrefix(text, "-"), ".", ""), "0"))
	if whole && r.Den > 1 || !finite || count > 18 {
		return "", api.ErrArg
	}
	return text, api.OK
}

func checkPlain(t *testing.T, r api.Rat) {
	for _, whole := range []bool{false, true} {
		want, e := wantPlain(r, whole)
		got, gotE := Plain(r, whole)
		if got != want || gotE != e {
			t.Errorf("Plain(%v, %v): %q %d, not %q %d", r, whole, got, gotE, want, e)
		}
		if e != api.OK {
			continue
		}
		if back, form, e := Decimal(got); back != r || form != whole || e != api.OK {
			t.Errorf("Decimal(%q): %v %v %d, not %v %v", got, back, form, e, r, whole)
		}
	}
}

// P1.5
func TestPlainIsRead(t *testing.T) {
	for _, r := range values() {
		checkPlain(t, r)
	}
	for twos := range 63 {
		for fives := range 28 {
			den := new(big.Int).Exp(big.NewInt(5), big.NewInt(int64(fives)), nil)
			den.Lsh(den, uint(twos))
			if !den.IsInt64() {
				continue
			}
			for _, num := range []int64{1, -2, 3, 5, -7, 10, 1 << 40, 3 << 40, 152587890625, 999999999999999999, highest} {
				checkPlain(t, Of(num, den.Int64()))
			}
		}
	}
	for _, whole := range []bool{false, true} {
		text, _ := Plain(api.Rat{}, whole)
		if r, form, e := Decimal(text); r != (api.Rat{}) || form != whole || e != api.OK {
			t.Errorf("Decimal(%q): %v %v %d", text, r, form, e)
		}
	}
}

// P1.6
func TestTextAndParse(t *testing.T) {
	for _, c := range []struct {
		r    api.Rat
		want string
	}{
		{frac(-3, 2), "-3/2"}, {frac(7, 1), "7"}, {frac(0, 1), "0"}, {api.Rat{}, "over"}, {frac(highest, 1), "9223372036854775807"}, {frac(-highest, highest-1), "-9223372036854775807/9223372036854775806"},
		{frac(1, highest), "1/9223372036854775807"},
	} {
		if got := Text(c.r); got != c.want {
			t.Errorf("Text(%v): %q", c.r, got)
		}
	}
	for _, r := range barred {
		if got := Text(r); got != "over" {
			t.Errorf("Text(%v): %q", r, got)
		}
	}
	for _, r := range append(values(), api.Rat{}) {
		if got, e := Parse(Text(r)); got != r || e != api.OK {
			t.Errorf("Parse(%q): %v %d", Text(r), got, e)
		}
	}
	for _, s := range []string{
		"", "-", "/", "6/4", "-0", "0/1", "0/2", "0/0", "1/0", "-1/0", "1/1", "-5/1", "+1", "01", "-01", "1/02", "1/", "/2", "-/2", "1//2", "1/2/3", "1/-2", "-1/-2", "1/+2", " 1", "1 ", "1 /2", "1.0", "1e3", "1_0", "0x1",
		"9223372036854775808", "-9223372036854775808", "1/9223372036854775808", "18446744073709551617", "-9223372036854775808/3", "Over", "OVER", "over ", "-over", "over/2", "1/over", "١", "1\x00",
	} {
		if got, e := Parse(s); got != (api.Rat{}) || e != api.ErrSyntax {
			t.Errorf("Parse(%q): %v %d, not ErrSyntax", s, got, e)
		}
	}
}

// P1.6: of all short texts just those are taken that Text tells.
func TestParseOfShortTexts(t *testing.T) {
	told := map[string]api.Rat{"over": {}}
	for num := int64(-9999); num <= 99999; num++ {
		told[strconv.FormatInt(num, 10)] = frac(num, 1)
	}
	for num := int64(-99); num <= 999; num++ {
		for den := int64(2); den <= 999; den++ {
			if r := frac(num, den); narrow(big.NewRat(num, den)) == r {
				told[strconv.FormatInt(num, 10)+"/"+strconv.FormatInt(den, 10)] = r
			}
		}
	}
	eachText("0126/-+", 5, func(s string) {
		want, ok := told[s]
		got, e := Parse(s)
		if got != want || (e == api.OK) != ok || !ok && e != api.ErrSyntax {
			t.Errorf("Parse(%q): %v %d, not %v %v", s, got, e, want, ok)
		}
	})
}
