package match

import (
	"fmt"
	"testing"

	"jalousie/api"
)

// lists: of each text the list; of an empty one none.
func lists(t *testing.T, texts ...string) [][]api.Complex {
	t.Helper()
	var l [][]api.Complex
	for _, s := range texts {
		if s == "" {
			l = append(l, nil)
			continue
		}
		l = append(l, list(t, s))
	}
	return l
}

// P10.4: a Hit of each list that is met, by rising numbers, with the greatest weight.
func TestHits(t *testing.T) {
	x := sample(t)
	table := New(lists(t, "p, #q", "ul", "*", ".x p, html #q", "", "#q, p", ":not(p)", "#q", "p:nth-child(n), p"))
	for id, want := range map[int]string{
		0: "[{2 [0 0 0]} {6 [0 0 1]}]",
		1: "[{2 [0 0 0]} {6 [0 0 1]}]",
		2: "[{0 [0 0 1]} {2 [0 0 0]} {3 [0 1 1]} {5 [0 0 1]} {8 [0 1 1]}]",
		3: "[{0 [1 0 0]} {2 [0 0 0]} {3 [1 0 1]} {5 [1 0 0]} {7 [1 0 0]} {8 [0 1 1]}]",
		4: "[{1 [0 0 1]} {2 [0 0 0]} {6 [0 0 1]}]",
		5: "[]", -1: "[]", 1 << 40: "[]",
	} {
		if got := fmt.Sprint(table.Hits(x, id)); got != want {
			t.Errorf("%d: %s", id, got)
		}
	}
}

// P10.4: many lists, of keys of all kinds, still by rising numbers.
func TestHitsRise(t *testing.T) {
	x := grown(t, "a,id=i,class=k_l")
	texts := []string{"#i", "*", ".l", "a", ".k", ":root", "#i.k", "a#i", ".k.l", "b, .l", "z", "[id], a"}
	var l [][]api.Complex
	for range 20 {
		l = append(l, lists(t, texts...)...)
	}
	hits := New(l).Hits(x, 0)
	if len(hits) != 20*(len(texts)-1) {
		t.Fatal(len(hits))
	}
	for i, h := range hits {
		if i > 0 && h.List <= hits[i-1].List {
			t.Fatal(i, h)
		}
		if w, ok := Any(x, 0, l[h.List]); !ok || w != h.Weight {
			t.Fatal(i, h, w)
		}
	}
}

// P10.5: 0 at first; behind each Hits as many more as selectors have a key of the element, or none.
func TestAsked(t *testing.T) {
	x := grown(t, "a .b,id=i,class=k_k_l .b,class=k .c,id=")
	table := New(lists(t,
		"b, #i, .k, .l, *",       // keys of each kind
		"z b, z.k, z#i, :not(*)", // looked at, and not met
		"b.k#i",                  // by its id alone
		"b > c, .k .m, #i #j",    // none of an element that is k or i or b
		":is(b), :root",          // no key
		"b, b, b",                // each for itself
	))
	if table.Asked() != 0 {
		t.Fatal(table.Asked())
	}
	var sum int64
	for _, c := range []struct {
		id   int
		want int64
	}{
		{0, 1 + 1 + 0 + 0 + 2 + 0},
		{1, 5 + 4 + 1 + 0 + 2 + 3},
		{2, 3 + 3 + 0 + 0 + 2 + 3},
		{3, 1 + 1 + 0 + 1 + 2 + 0},
		{4, 0}, {-1, 0},
		{0, 4}, {1, 15}, // anew each time
	} {
		table.Hits(x, c.id)
		sum += c.want
		if table.Asked() != sum {
			t.Fatalf("%d: %d, not %d", c.id, table.Asked(), sum)
		}
	}
	table.Hits(nil, 0)
	if table.Asked() != sum {
		t.Error("no tree")
	}
	if New(nil).Asked() != 0 {
		t.Error("no lists")
	}
}

// P10.5: Meets, Any, All and Key ask no table.
func TestOthersDoNotAsk(t *testing.T) {
	x := sample(t)
	l := lists(t, "p, *", "p")
	table := New(l)
	All(x, l[0])
	Any(x, 2, l[0])
	Meets(x, 2, l[1][0])
	Key(l[1][0])
	other := New(l)
	other.Hits(x, 2)
	if table.Asked() != 0 || other.Asked() != 3 {
		t.Error(table.Asked(), other.Asked())
	}
}

// R3: a table that no New has made ends without a panic.
func TestNoTable(t *testing.T) {
	x := sample(t)
	for _, table := range []*Table{nil, {}, New(nil), New([][]api.Complex{}), New([][]api.Complex{nil, {}, {{}}})} {
		if l := table.Hits(x, 1); len(l) != 0 || table.Asked() != 0 {
			t.Error(l, table.Asked())
		}
	}
}
