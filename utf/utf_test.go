package utf

import (
	"bytes"
	"math/rand"
	"slices"
	"testing"
	"unicode/utf8"
)

// beginnings holds, by the document's words and the library's bytes, each first one, two or three bytes of a character.
func beginnings() map[string]bool {
	known := map[string]bool{}
	for c := rune(0); c <= 0x10FFFF; c++ {
		if c >= 0xD800 && c <= 0xDFFF {
			continue
		}
		var room [4]byte
		size := utf8.EncodeRune(room[:], c)
		for n := 1; n < size; n++ {
			known[string(room[:n])] = true
		}
	}
	return known
}

// plainRaw is P2.1 word by word, by the table of all beginnings.
func plainRaw(b []byte, known map[string]bool) []rune {
	var l []rune
	for len(b) > 0 {
		if c, size := utf8.DecodeRune(b); c != utf8.RuneError || size == 3 {
			l = append(l, c)
			b = b[size:]
			continue
		}
		gone := 1
		for n := 2; n <= 3 && n <= len(b); n++ {
			if known[string(b[:n])] {
				gone = n
			}
		}
		l = append(l, 0xFFFD)
		b = b[gone:]
	}
	return l
}

// plainDecode is P2.2 word by word.
func plainDecode(b []byte, known map[string]bool) []rune {
	b = bytes.TrimPrefix(b, []byte{0xEF, 0xBB, 0xBF})
	raw := plainRaw(b, known)
	var l []rune
	for i := 0; i < len(raw); i++ {
		switch {
		case raw[i] == 13 && i+1 < len(raw) && raw[i+1] == 10:
			l = append(l, 10)
			i++
		case raw[i] == 13 || raw[i] == 12:
			l = append(l, 10)
		case raw[i] == 0:
			l = append(l, 0xFFFD)
		default:
			l = append(l, raw[i])
		}
	}
	return l
}

// edgeBytes are bytes at which some range begins or ends.
func edgeBytes() []byte {
	return []byte{0, 'A', '\n', '\f', '\r', 0x7F, 0x80, 0x8F, 0x90, 0x9F, 0xA0, 0xBB, 0xBD, 0xBF, 0xC0, 0xC1, 0xC2, 0xC3, 0xDF, 0xE0, 0xE1, 0xEC, 0xED, 0xEE, 0xEF, 0xF0, 0xF1, 0xF3, 0xF4, 0xF5, 0xFE, 0xFF}
}

// check holds all calls of b against the plain ones, and against what follows (P2.5, P2.6).
func check(t *testing.T, b []byte, known map[string]bool) {
	t.Helper()
	raw, want := Raw(b), plainRaw(b, known)
	if !slices.Equal(raw, want) {
		t.Fatalf("Raw(% x) = %x, want %x", b, raw, want)
	}
	if got, want := Whole(b), utf8.Valid(b); got != want {
		t.Fatalf("Whole(% x) = %v", b, got)
	}
	if back := bytes.Equal(Encode(raw), b); back != Whole(b) {
		t.Fatalf("Encode(Raw(% x)): the same: %v", b, back)
	}
	if len(raw) > len(b) || 4*len(raw) < len(b) {
		t.Fatalf("Raw(% x): %d characters", b, len(raw))
	}
	decoded := Decode(b)
	if want := plainDecode(b, known); !slices.Equal(decoded, want) {
		t.Fatalf("Decode(% x) = %x, want %x", b, decoded, want)
	}
	for _, c := range decoded {
		if c == 0 || c == 12 || c == 13 {
			t.Fatalf("Decode(% x) tells %x", b, c)
		}
	}
	if len(decoded) > 0 && decoded[0] == 0xFEFF {
		return
	}
	if again := Decode(Encode(decoded)); !slices.Equal(again, decoded) {
		t.Fatalf("Decode(% x) = %x, and again %x", b, decoded, again)
	}
}

// TestExamples: the chapter's table, and P2.1's own examples.
func TestExamples(t *testing.T) {
	for _, x := range []struct {
		b    string
		want []rune
	}{
		{"\x41\xC3\xA4", []rune{0x41, 0xE4}},
		{"\xC3", []rune{0xFFFD}},
		{"\xC3\x41", []rune{0xFFFD, 0x41}},
		{"\xE2\x82", []rune{0xFFFD}},
		{"\x80", []rune{0xFFFD}},
		{"\xF4\x90\x80\x80", []rune{0xFFFD, 0xFFFD, 0xFFFD, 0xFFFD}},
		{"\xF0\x80", []rune{0xFFFD, 0xFFFD}},
		{"\xF0\x9F\x98", []rune{0xFFFD}},
		{"\xC0\x80", []rune{0xFFFD, 0xFFFD}},
		{"\xED\xA0\x80", []rune{0xFFFD, 0xFFFD, 0xFFFD}},
		{"\xF5", []rune{0xFFFD}},
		{"", nil},
	} {
		if got := Raw([]byte(x.b)); !slices.Equal(got, x.want) {
			t.Errorf("Raw(% x) = %x", x.b, got)
		}
	}
	if got := Decode([]byte("\xEF\xBB\xBF\x61\r\n\x62\r\x63\f\x00")); !slices.Equal(got, []rune{0x61, 10, 0x62, 10, 0x63, 10, 0xFFFD}) {
		t.Errorf("Decode: %x", got)
	}
	if got := Encode([]rune{0x20AC, 0x110000, 0xD800, -1}); string(got) != "\xE2\x82\xAC\xEF\xBF\xBD\xEF\xBF\xBD\xEF\xBF\xBD" {
		t.Errorf("Encode: % x", got)
	}
	if !Whole([]byte{0xC3, 0xA4}) || Whole([]byte{0xC3}) || !Whole([]byte{}) || !Whole(nil) {
		t.Error("Whole")
	}
}

// TestShort: all texts of up to two bytes, and those of up to four bytes at the edges of ranges.
func TestShort(t *testing.T) {
	known := beginnings()
	check(t, nil, known)
	for a := range 256 {
		check(t, []byte{byte(a)}, known)
		for b := range 256 {
			check(t, []byte{byte(a), byte(b)}, known)
		}
	}
	edges := edgeBytes()
	for _, a := range edges {
		for _, b := range edges {
			for _, c := range edges {
				check(t, []byte{a, b, c}, known)
			}
		}
	}
	for _, a := range []byte{'A', 0xC3, 0xE0, 0xE2, 0xED, 0xEF, 0xF0, 0xF1, 0xF4, 0xF5} {
		for _, b := range edges {
			for _, c := range []byte{'A', 0x7F, 0x80, 0xBB, 0xBF, 0xC0, 0xE2, 0xF0} {
				for _, d := range []byte{'A', 0x7F, 0x80, 0xBF, 0xC0, 0xED} {
					check(t, []byte{a, b, c, d}, known)
				}
			}
		}
	}
}

// TestMixed: characters, beginnings, marks and line ends in every order.
func TestMixed(t *testing.T) {
	known := beginnings()
	parts := []string{"a", "\n", "\r", "\r\n", "\f", "\x00", "\xEF\xBB\xBF", "\xEF\xBB", "\xEF", "\xC3", "\xC3\xA4", "\xE2\x82", "\xE2\x82\xAC", "\xF0", "\xF0\x9F", "\xF0\x9F\x98", "\xF0\x9F\x98\x80", "\xEF\xBF\xBD", "\xED\xA0\x80", "\xF4\x90", "\xFF"}
	r := rand.New(rand.NewSource(2))
	for range 40000 {
		var b []byte
		for range r.Intn(9) {
			b = append(b, parts[r.Intn(len(parts))]...)
		}
		check(t, b, known)
		cut := r.Intn(len(b) + 1)
		if front := b[:cut]; Whole(front) {
			if got := append(Raw(front), Raw(b[cut:])...); !slices.Equal(got, Raw(b)) {
				t.Fatalf("% x, cut at %d: %x", b, cut, got)
			}
		}
	}
}

// TestMark: EF BB BF is left out at the very front alone, and once.
func TestMark(t *testing.T) {
	for _, x := range []struct {
		b    string
		want []rune
	}{
		{"\xEF\xBB\xBF", nil},
		{"\xEF\xBB", []rune{0xFFFD}},
		{"\xEF\xBB\xBFa", []rune{'a'}},
		{"\xEF\xBB\xBF\xEF\xBB\xBFa", []rune{0xFEFF, 'a'}},
		{"a\xEF\xBB\xBF", []rune{'a', 0xFEFF}},
		{"\n\xEF\xBB\xBF", []rune{10, 0xFEFF}},
		{"\xEF\xBB\xBF\r\n", []rune{10}},
	} {
		if got := Decode([]byte(x.b)); !slices.Equal(got, x.want) {
			t.Errorf("Decode(% x) = %x", x.b, got)
		}
	}
}

// TestLineEnds: pairs of D and A, runs of them, and a D at the end.
func TestLineEnds(t *testing.T) {
	for _, x := range []struct{ b, want string }{
		{"\r", "\n"}, {"\n", "\n"}, {"\f", "\n"}, {"\r\n", "\n"}, {"\n\r", "\n\n"}, {"\r\r\n\n", "\n\n\n"},
		{"\r\n\r\n", "\n\n"}, {"\f\n", "\n\n"}, {"\r\f", "\n\n"}, {"a\r", "a\n"}, {"\r\x00\n", "\n\uFFFD\n"}, {"\x00\x00", "\uFFFD\uFFFD"},
		{"\r\xC3\n", "\n\uFFFD\n"}, {"\t\v ", "\t\v "},
	} {
		if got := string(Decode([]byte(x.b))); got != x.want {
			t.Errorf("Decode(%q) = %q", x.b, got)
		}
	}
}

// TestEveryCharacter: each there and back, and all at once (P2.3, P2.5).
func TestEveryCharacter(t *testing.T) {
	var all []rune
	for c := rune(0); c <= 0x10FFFF; c++ {
		b := Encode([]rune{c})
		if want := utf8.AppendRune(nil, c); !bytes.Equal(b, want) {
			t.Fatalf("Encode(%x) = % x", c, b)
		}
		if c < 0xD800 || c > 0xDFFF {
			all = append(all, c)
		}
	}
	b := Encode(all)
	if !Whole(b) || !slices.Equal(Raw(b), all) {
		t.Error("all characters: not the same there and back")
	}
}

// TestNoCharacters: numbers that are no characters have the replacement's bytes.
func TestNoCharacters(t *testing.T) {
	for _, c := range []rune{-1, -2147483648, 0xD800, 0xDBFF, 0xDC00, 0xDFFF, 0x110000, 0x200000, 0x7FFFFFFF} {
		if got := Encode([]rune{'a', c, 'b'}); string(got) != "a\xEF\xBF\xBDb" {
			t.Errorf("Encode(%x) = % x", c, got)
		}
	}
	if len(Encode(nil)) != 0 {
		t.Error("Encode of nothing")
	}
}

// TestMemory: what is handed in stays, what lies behind its length is not read, and what is told is new (R2).
func TestMemory(t *testing.T) {
	b := []byte("\xEF\xBB\xBFa\r\n\xC3\xA4\x00")
	before := slices.Clone(b)
	Raw(b)
	Decode(b)
	Whole(b)
	if !bytes.Equal(b, before) {
		t.Errorf("changed: % x", b)
	}
	if got := Raw(b[:7]); !slices.Equal(got, []rune{0xFEFF, 'a', 13, 10, 0xFFFD}) {
		t.Errorf("what lies behind is read: %x", got)
	}
	if got := Decode(b[3:5]); !slices.Equal(got, []rune{'a', 10}) || Whole(b[:7]) {
		t.Errorf("what lies behind is read: %x", got)
	}
	l := []rune{'a', -1, 0x20AC}
	Encode(l)
	if !slices.Equal(l, []rune{'a', -1, 0x20AC}) {
		t.Errorf("changed: %x", l)
	}
}
