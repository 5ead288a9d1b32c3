package rat

import (
	"math"
	"math/bits"
	"strconv"
	"strings"

	"jalousie/api"
)

// How Plain and Text write what is over. The first two are numbers that Decimal reads as over: twenty digits count, and 10^99 is too great.
const (
	overWhole = "99999999999999999999"
	overPoint = "1e99"
	overText  = "over"
)

// farExponent is where an exponent's digits stop to count: no text is long enough for its digits to make up for so great a one.
const farExponent = 1 << 50

// number is a number of a stylesheet, taken apart.
type number struct {
	below    bool
	ahead    string // digits ahead of the point
	behind   string // digits behind it
	exponent int
	whole    bool
}

// Decimal reads a number as stylesheets write it.
func Decimal(s string) (api.Rat, bool, api.Errno) {
	n, ok := takeApart(s)
	if !ok {
		return api.Rat{}, false, api.ErrSyntax
	}
	return n.value(), n.whole, api.OK
}

func takeApart(s string) (number, bool) {
	n := number{whole: true}
	n.below, s = cutSign(s)
	n.ahead, s = cutDigits(s)
	if strings.HasPrefix(s, ".") {
		n.whole = false
		n.behind, s = cutDigits(s[1:])
		if n.behind == "" {
			return number{}, false
		}
	}
	if n.ahead == "" && n.behind == "" {
		return number{}, false
	}
	if s == "" {
		return n, true
	}
	n.whole = false
	var ok bool
	n.exponent, ok = readExponent(s)
	return n, ok
}

// readExponent reads an e with what stands behind it, to the end of s.
func readExponent(s string) (int, bool) {
	if s[0] != 'e' && s[0] != 'E' {
		return 0, false
	}
	below, s := cutSign(s[1:])
	digits, s := cutDigits(s)
	if digits == "" || s != "" {
		return 0, false
	}
	e := 0
	for i := 0; i < len(digits) && e < farExponent; i++ {
		e = e*10 + int(digits[i]-'0')
	}
	if below {
		return -e, true
	}
	return e, true
}

// cutSign tells whether s begins with a -, and s without its sign.
func cutSign(s string) (bool, string) {
	if s != "" && (s[0] == '+' || s[0] == '-') {
		return s[0] == '-', s[1:]
	}
	return false, s
}

// cutDigits tells the digits with which s begins, and the rest.
func cutDigits(s string) (string, string) {
	n := 0
	for n < len(s) && '0' <= s[n] && s[n] <= '9' {
		n++
	}
	return s[:n], s[n:]
}

func (n number) value() api.Rat {
	kept := strings.TrimLeft(n.ahead+n.behind, "0")
	count := strings.TrimRight(kept, "0")
	if count == "" {
		return api.Rat{Num: 0, Den: 1}
	}
	if len(count) > api.MaxDigits {
		return api.Rat{}
	}
	num, _ := strconv.ParseUint(count, 10, 64) // so few digits have room
	num, den, ok := shifted(num, n.exponent-len(n.behind)+len(kept)-len(count))
	if !ok {
		return api.Rat{}
	}
	return made(n.below, num, den)
}

// shifted tells num * 10^places in lowest terms; false, if that is over. num is not 0.
func shifted(num uint64, places int) (uint64, uint64, bool) {
	if places >= 0 {
		num, ok := multiplied(num, 10, places)
		return num, 1, ok
	}
	num, den, ok := divided(num, 1, 2, -places)
	if !ok {
		return 0, 0, false
	}
	return divided(num, den, 5, -places)
}

// multiplied tells n * by^times; false, if that is above the greatest int64. n is not 0.
func multiplied(n, by uint64, times int) (uint64, bool) {
	for ; times > 0; times-- {
		if n > math.MaxInt64/by {
			return 0, false
		}
		n *= by
	}
	return n, true
}

// divided tells num / (den * prime^times) in lowest terms, if num/den is; false, if its lower part is too great. num is not 0, and prime no divisor of den.
func divided(num, den, prime uint64, times int) (uint64, uint64, bool) {
	for times > 0 && num%prime == 0 {
		num /= prime
		times--
	}
	den, ok := multiplied(den, prime, times)
	return num, den, ok
}

// Plain writes r as a number that Decimal reads.
func Plain(r api.Rat, whole bool) (string, api.Errno) {
	if !May(r) || whole && r.Den > 1 {
		return "", api.ErrArg
	}
	if isOver(r) {
		return plainOver(whole), api.OK
	}
	digits, places, ok := finite(r)
	if !ok || len(strings.TrimRight(digits, "0")) > api.MaxDigits {
		return "", api.ErrArg
	}
	text := digits
	if !whole {
		text = pointed(digits, places)
	}
	if r.Num < 0 {
		text = "-" + text
	}
	return text, api.OK
}

func plainOver(whole bool) string {
	if whole {
		return overWhole
	}
	return overPoint
}

// finite tells the digits of r's decimal, and how many of them stand behind the point, as few as can be; false, if it has no end, or so many digits that not all can be told.
func finite(r api.Rat) (string, int, bool) {
	den := uint64(r.Den)
	twos := bits.TrailingZeros64(den)
	den >>= twos
	fives := 0
	for den%5 == 0 {
		den /= 5
		fives++
	}
	if den != 1 {
		return "", 0, false
	}
	// What is multiplied here is neither 0 nor, in the end, a multiple of 10, so each of its digits counts: beyond the int64 there are more than 18.
	places := max(twos, fives)
	n, ok := multiplied(magnitude(r.Num), 2, places-twos)
	if ok {
		n, ok = multiplied(n, 5, places-fives)
	}
	return strconv.FormatUint(n, 10), places, ok
}

// pointed sets the point into digits, ahead of the last places of them, with one digit at least on each side.
func pointed(digits string, places int) string {
	if len(digits) <= places {
		digits = strings.Repeat("0", places-len(digits)+1) + digits
	}
	at := len(digits) - places
	if places == 0 {
		return digits + ".0"
	}
	return digits[:at] + "." + digits[at:]
}

// Text writes r: as over, as a whole number, or with its lower part.
func Text(r api.Rat) string {
	if !isValue(r) {
		return overText
	}
	num := strconv.FormatInt(r.Num, 10)
	if r.Den == 1 {
		return num
	}
	return num + "/" + strconv.FormatInt(r.Den, 10)
}

// Parse reads what Text writes.
func Parse(s string) (api.Rat, api.Errno) {
	r, ok := readFraction(s)
	// Other spellings of a number, and what may not be, are told by that Text writes otherwise.
	if !ok || Text(r) != s {
		return api.Rat{}, api.ErrSyntax
	}
	return r, api.OK
}

func readFraction(s string) (api.Rat, bool) {
	if s == overText {
		return api.Rat{}, true
	}
	num, den, found := strings.Cut(s, "/")
	if !found {
		den = "1"
	}
	n, err := strconv.ParseInt(num, 10, 64)
	if err != nil {
		return api.Rat{}, false
	}
	d, err := strconv.ParseInt(den, 10, 64)
	if err != nil {
		return api.Rat{}, false
	}
	return api.Rat{Num: n, Den: d}, true
}
